import Derived.Test.YtkjoojamkbpfcaaGreatN8
import Derived.Test.YtkjoojamkbpfcaaGreatNT
/- A tariff out of bytes: taken, the exported call. -/
namespace Go.Proofs.YtkjoojamkbpfcaaGreat
open Go.RowKit

attribute [local go_sem] run_store_float

theorem KL.goT {S : Nat → Prop} {w0 w w' : World} {ao : Option Addr} {cap gl k : Nat} {vs : List Value} (h : KL w0 w ao cap gl k vs) (hk : 0 < k) (hf : Fr S w w') (hS : ∀ q, S q → q < w0.heap.size) : KL w0 w' ao cap gl k vs :=
  ⟨h.row.stay (fun hc => hf.block gl (h.row.lt hk hc) (fun hq => by have := h.new hc; have := hS gl hq; omega)), h.new⟩

theorem KRow.catT {w : World} {ao : Option Addr} {cap g k : Nat} {vs : List Value} (h : KRow w ao cap g k vs) : CAt w ao vs := fun h0 => by
  have h1 := h.le
  have hc : 0 < cap := by
    rcases Nat.eq_zero_or_pos cap with e | e
    · subst e; omega
    · exact e
  exact ⟨g, 0, h.ad hc, fun j hj => by rw [Nat.zero_add]; exact h.cells j hj⟩

theorem shape_listT {A : Type} (C : A → List Value) (f : List Value → A) : ∀ (rs : List (List Value)), (∀ r ∈ rs, r = C (f r)) → rs = (rs.map f).map C ∧ rs.flatten = (rs.map f).flatMap C
  | [], _ => ⟨rfl, rfl⟩
  | r :: rs, h => by
    obtain ⟨h1, h2⟩ := shape_listT C f rs (fun r hr => h r (List.mem_cons_of_mem _ hr))
    have h0 := h r (List.mem_cons_self ..)
    constructor
    · rw [List.map_cons, List.map_cons, ← h1, ← h0]
    · rw [List.map_cons, List.flatMap_cons, ← h2, ← h0, List.flatten_cons]

theorem rdM_lengthT (bs : List UInt8) (most : Nat) (ks : List Kd) (s : RS) : (rdM bs most ks s).1.length ≤ most := by
  unfold rdM
  rw [rdN_length]
  exact (cnt_spec bs most s).2

def stOf : List Value → Stn
  | [.int _ a, .int _ b, .int _ c] => ⟨a, b, c⟩
  | _ => ⟨0, 0, 0⟩
def spOf : List Value → Spn
  | [.int _ a, .int _ b, .int _ c, .int _ d, .int _ e] => ⟨a, b, c, d, e⟩
  | _ => ⟨0, 0, 0, 0, 0⟩
def bdOf : List Value → Int × Int
  | [.int _ a, .int _ b] => (a, b)
  | _ => (0, 0)
theorem st_shape (bs : List UInt8) (s : RS) : (rdL bs stationK s).1 = stC (stOf (rdL bs stationK s).1) := by
  have h := rdL_has bs stationK s
  generalize (rdL bs stationK s).1 = vs at h ⊢
  match vs, h with
  | [v0, v1, v2], ⟨⟨_, e0⟩, ⟨_, e1⟩, ⟨_, e2⟩, _⟩ =>
    subst e0 e1 e2
    rfl
theorem sp_shape (bs : List UInt8) (s : RS) : (rdL bs spanK s).1 = spC (spOf (rdL bs spanK s).1) := by
  have h := rdL_has bs spanK s
  generalize (rdL bs spanK s).1 = vs at h ⊢
  match vs, h with
  | [v0, v1, v2, v3, v4], ⟨⟨_, e0⟩, ⟨_, e1⟩, ⟨_, e2⟩, ⟨_, e3⟩, ⟨_, e4⟩, _⟩ =>
    subst e0 e1 e2 e3 e4
    rfl
theorem bd_shape (bs : List UInt8) (s : RS) : (rdL bs bandK s).1 = bdC (bdOf (rdL bs bandK s).1) := by
  have h := rdL_has bs bandK s
  generalize (rdL bs bandK s).1 = vs at h ⊢
  match vs, h with
  | [v0, v1], ⟨⟨_, e0⟩, ⟨_, e1⟩, _⟩ =>
    subst e0 e1
    rfl
theorem sts_shape (bs : List UInt8) (most : Nat) (s : RS) : (rdM bs most stationK s).1 = ((rdM bs most stationK s).1.map stOf).map stC ∧ (rdM bs most stationK s).1.flatten = stV ((rdM bs most stationK s).1.map stOf) :=
  shape_listT stC stOf _ (fun r hr => by obtain ⟨s', rfl⟩ := rdN_mem bs stationK _ _ r hr; exact st_shape bs s')
theorem sps_shape (bs : List UInt8) (most : Nat) (s : RS) : (rdM bs most spanK s).1 = ((rdM bs most spanK s).1.map spOf).map spC ∧ (rdM bs most spanK s).1.flatten = spV ((rdM bs most spanK s).1.map spOf) :=
  shape_listT spC spOf _ (fun r hr => by obtain ⟨s', rfl⟩ := rdN_mem bs spanK _ _ r hr; exact sp_shape bs s')
theorem bds_shape (bs : List UInt8) (most : Nat) (s : RS) : (rdM bs most bandK s).1 = ((rdM bs most bandK s).1.map bdOf).map bdC ∧ (rdM bs most bandK s).1.flatten = bdV ((rdM bs most bandK s).1.map bdOf) :=
  shape_listT bdC bdOf _ (fun r hr => by obtain ⟨s', rfl⟩ := rdN_mem bs bandK _ _ r hr; exact bd_shape bs s')

def intIn : Value → Int
  | .int _ n => n
  | _ => 0
def fltIn : Value → Nat
  | .float _ n => n
  | _ => 0
theorem nums_shape (bs : List UInt8) (k : Nat) : ∀ (n : Nat) (s : RS) (i : Nat), i < n → (rdL bs (List.replicate n (.num k)) s).1.getD i undef = .int .i64 (intIn ((rdL bs (List.replicate n (.num k)) s).1.getD i undef))
  | 0, _, _, h => absurd h (by omega)
  | n + 1, s, 0, _ => by
    obtain ⟨m, hm⟩ := rd_num bs (.num k) s (Or.inl ⟨_, rfl⟩)
    show ((Kd.num k).rd bs s).1 = .int .i64 (intIn ((Kd.num k).rd bs s).1)
    rw [hm]
    rfl
  | n + 1, s, i + 1, h => nums_shape bs k n _ i (by omega)
theorem flt_shape (bs : List UInt8) (s : RS) : (Kd.float.rd bs s).1 = .float .f64 (fltIn (Kd.float.rd bs s).1) ∧ fltIn (Kd.float.rd bs s).1 < 18446744073709551616 := by
  have key : ∃ n, (Kd.float.rd bs s).1 = .float .f64 n ∧ n < 18446744073709551616 := by
    unfold Kd.rd stepR
    split
    · simp only [Kd.o, oFloat]
      split
      · rename_i h
        split at h
        · cases h
        split at h
        · cases h
        · injection h with h
          injection h with h1 h2
          refine ⟨_, h1.symm, ?_⟩
          have hn := num_lt ((bs.drop s.a).take 8)
          have hl : ((bs.drop s.a).take 8).length ≤ 8 := by simp; omega
          have hp : 256 ^ ((bs.drop s.a).take 8).length ≤ 256 ^ 8 := Nat.pow_le_pow_right (by omega) hl
          omega
      · exact ⟨0, rfl, by omega⟩
    · exact ⟨0, rfl, by omega⟩
  obtain ⟨n, h1, h2⟩ := key
  rw [h1]
  exact ⟨rfl, h2⟩

/-- A tariff that came into being since. -/
structure TNew (w0 w : World) (t : Tf) (A : Ad) (g0 g1 g2 : Nat) : Prop where
  k0 : KL w0 w A.aS A.cS g0 3 (stV t.st)
  k1 : KL w0 w A.aP A.cP g1 5 (spV t.sp)
  k2 : KL w0 w A.aB A.cB g2 2 (bdV t.bd)
  ne : (0 < A.cS → 0 < A.cP → g0 ≠ g1) ∧ (0 < A.cS → 0 < A.cB → g0 ≠ g2) ∧ (0 < A.cP → 0 < A.cB → g1 ≠ g2)
  few : t.st.length ≤ 200 ∧ t.sp.length ≤ 45 ∧ t.bd.length ≤ 8 ∧ t.off < 18446744073709551616
theorem TNew.go {S : Nat → Prop} {w0 w w' : World} {t : Tf} {A : Ad} {g0 g1 g2 : Nat} (h : TNew w0 w t A g0 g1 g2) (hf : Fr S w w') (hS : ∀ q, S q → q < w0.heap.size) : TNew w0 w' t A g0 g1 g2 := ⟨h.k0.goT (by omega) hf hS, h.k1.goT (by omega) hf hS, h.k2.goT (by omega) hf hS, h.ne, h.few⟩
theorem TNew.later {w0 w1 w : World} {t : Tf} {A : Ad} {g0 g1 g2 : Nat} (h : TNew w1 w t A g0 g1 g2) (hs : w0.heap.size ≤ w1.heap.size) : TNew w0 w t A g0 g1 g2 := ⟨h.k0.later hs, h.k1.later hs, h.k2.later hs, h.ne, h.few⟩
theorem TNew.at {w0 w : World} {t : Tf} {A : Ad} {g0 g1 g2 : Nat} (h : TNew w0 w t A g0 g1 g2) : TAt w A t := ⟨h.k0.row.catT, h.k1.row.catT, h.k2.row.catT, by have := h.few; omega, by have := h.few; omega, by have := h.few; omega, h.few.2.2.2⟩

def tarZ : Tf := ⟨[], [], [], 0, 0, 0, 0, 0, 0, 0, 0, 0, 0, 0⟩
def adZ : Ad := ⟨none, 0, none, 0, none, 0⟩
theorem KL.noneT (w0 w : World) (g k : Nat) : KL w0 w none 0 g k [] := ⟨KRow.nil _ _ _, fun h => absurd h (by omega)⟩
theorem TNew.zero (w0 w : World) : TNew w0 w tarZ adZ 0 0 0 := ⟨KL.noneT _ _ _ _, KL.noneT _ _ _ _, KL.noneT _ _ _ _, ⟨fun h => absurd h (by simp [adZ]), fun h => absurd h (by simp [adZ]), fun h => absurd h (by simp [adZ])⟩, by simp [tarZ]⟩

def tarOf (bs : List UInt8) (s : RS) : Tf := ⟨(tariffQ0 bs s).1.map stOf, (tariffQ1 bs s).1.map spOf, (tariffQ2 bs s).1.map bdOf, fltIn (tariffQ3 bs s).1, intIn ((tariffQ4 bs s).1.getD 0 undef), intIn ((tariffQ4 bs s).1.getD 1 undef), intIn ((tariffQ4 bs s).1.getD 2 undef), intIn ((tariffQ5 bs s).1.getD 0 undef), intIn ((tariffQ6 bs s).1.getD 0 undef), intIn ((tariffQ7 bs s).1.getD 0 undef), intIn ((tariffQ7 bs s).1.getD 1 undef), intIn ((tariffQ7 bs s).1.getD 2 undef), intIn ((tariffQ7 bs s).1.getD 3 undef), intIn ((tariffQ8 bs s).1.getD 0 undef)⟩

theorem tar_shape (bs : List UInt8) (s : RS) : ((tariffQ0 bs s).1.length = (tarOf bs s).st.length ∧ (tariffQ1 bs s).1.length = (tarOf bs s).sp.length ∧ (tariffQ2 bs s).1.length = (tarOf bs s).bd.length) ∧ ((tariffQ0 bs s).1.flatten = stV (tarOf bs s).st ∧ (tariffQ1 bs s).1.flatten = spV (tarOf bs s).sp ∧ (tariffQ2 bs s).1.flatten = bdV (tarOf bs s).bd) ∧ (tariffQ3 bs s).1 = .float .f64 (tarOf bs s).off
    ∧ ((tariffQ4 bs s).1.getD 0 undef = .int .i64 (tarOf bs s).bus ∧ (tariffQ4 bs s).1.getD 1 undef = .int .i64 (tarOf bs s).busDaily ∧ (tariffQ4 bs s).1.getD 2 undef = .int .i64 (tarOf bs s).busWeekly ∧ (tariffQ5 bs s).1.getD 0 undef = .int .i64 (tarOf bs s).hopper ∧ (tariffQ6 bs s).1.getD 0 undef = .int .i64 (tarOf bs s).most ∧ (tariffQ7 bs s).1.getD 0 undef = .int .i64 (tarOf bs s).longest ∧ (tariffQ7 bs s).1.getD 1 undef = .int .i64 (tarOf bs s).change ∧ (tariffQ7 bs s).1.getD 2 undef = .int .i64 (tarOf bs s).passback ∧ (tariffQ7 bs s).1.getD 3 undef = .int .i64 (tarOf bs s).delay ∧ (tariffQ8 bs s).1.getD 0 undef = .int .i64 (tarOf bs s).threshold)
    ∧ ((tarOf bs s).st.length ≤ 200 ∧ (tarOf bs s).sp.length ≤ 45 ∧ (tarOf bs s).bd.length ≤ 8 ∧ (tarOf bs s).off < 18446744073709551616) := by
  refine ⟨⟨by simp [tarOf], by simp [tarOf], by simp [tarOf]⟩, ⟨(sts_shape bs 200 _).2, (sps_shape bs 45 _).2, (bds_shape bs 8 _).2⟩, (flt_shape bs _).1, ⟨nums_shape bs _ _ _ 0 (by omega), nums_shape bs _ _ _ 1 (by omega), nums_shape bs _ _ _ 2 (by omega), nums_shape bs _ _ _ 0 (by omega), nums_shape bs _ _ _ 0 (by omega), nums_shape bs _ _ _ 0 (by omega), nums_shape bs _ _ _ 1 (by omega), nums_shape bs _ _ _ 2 (by omega), nums_shape bs _ _ _ 3 (by omega), nums_shape bs _ _ _ 0 (by omega)⟩, ?_, ?_, ?_, (flt_shape bs _).2⟩
  · rw [show (tarOf bs s).st.length = (tariffQ0 bs s).1.length from by simp [tarOf]]
    exact rdM_lengthT _ _ _ _
  · rw [show (tarOf bs s).sp.length = (tariffQ1 bs s).1.length from by simp [tarOf]]
    exact rdM_lengthT _ _ _ _
  · rw [show (tarOf bs s).bd.length = (tariffQ2 bs s).1.length from by simp [tarOf]]
    exact rdM_lengthT _ _ _ _

theorem tar_size (cs : Array Value) (h : cs.size = 14) : (Tryz.prog.info? 27).map (·.size) = some cs.size := by rw [h]; kernel_rfl

/-- What reading answers: the tariff, the fault. -/
def tarRd (bs : List UInt8) : Tf × Int × Int :=
  if (endR (tariffS9 bs s00) bs.length).c ≠ 0 then (tarZ, (endR (tariffS9 bs s00) bs.length).c, (endR (tariffS9 bs s00) bs.length).f)
  else if rightE (tarOf bs s00) = 0 then (tarOf bs s00, 0, 0) else (tarZ, rightE (tarOf bs s00), -1)

def ReadTariff (w : World) (r : Tf × Int × Int) (e : Ending) (w' : World) : Prop := ∃ A g0 g1 g2, e = .returned (.tuple #[tv A r.1, .agg #[.int .i64 r.2.1, .int .i64 r.2.2]]) ∧ TNew w w' r.1 A g0 g1 g2 ∧ Fr (fun _ => False) w w'

set_option maxHeartbeats 2000000 in
theorem takenTariff_any (w : World) (ao : Option Addr) (cap : Nat) (bs : List UInt8) (hB : BIn w ao cap bs) :
    Calls Tryz.prog 25 #[.slice ao bs.length cap, .func (Fn.func 18) #[] #[], .func (Fn.func 19) #[] #[]] w (ReadTariff w (tarRd bs)) := by
  have HB := hide hB
  have HSH := hide (tar_shape bs s00)
  obtain ⟨d, Hd⟩ : ∃ d, Hid (tarOf bs s00 = d) := ⟨_, rfl⟩
  obtain ⟨q, Hq⟩ : ∃ q, Hid (tariffS9 bs s00 = q) := ⟨_, rfl⟩
  obtain ⟨z, Hz⟩ : ∃ z, Hid (endR q bs.length = z) := ⟨_, rfl⟩
  obtain ⟨R, HRe⟩ : ∃ R, Hid (tarRd bs = R) := ⟨_, rfl⟩
  have HR : Hid (R = if z.c ≠ 0 then (tarZ, z.c, z.f) else if rightE d = 0 then (d, 0, 0) else (tarZ, rightE d, -1)) := hide (by rw [← unhide HRe]; unfold tarRd; rw [unhide Hq, unhide Hd, unhide Hz])
  rw [unhide Hd] at HSH
  rw [unhide HRe]
  clear hB HRe
  go_enter Tryz.func25, Tryz.ntmps25
  go_wp2_with fail
  have HX0 : Hid (Fr (fun _ => False) w ((((w.alloc (.cells #[.slice none 0 0, .slice none 0 0, .slice none 0 0, .float .f64 0, .int .i64 0, .int .i64 0, .int .i64 0, .int .i64 0, .int .i64 0, .int .i64 0, .int .i64 0, .int .i64 0, .int .i64 0, .int .i64 0] 27)).alloc (.cells #[.int .i64 0, .int .i64 0] 37)).alloc (.cells #[.slice none 0 0, .slice none 0 0, .slice none 0 0, .float .f64 0, .int .i64 0, .int .i64 0, .int .i64 0, .int .i64 0, .int .i64 0, .int .i64 0, .int .i64 0, .int .i64 0, .int .i64 0, .int .i64 0] 27)).alloc (.cells #[.slice none 0 0, .slice none 0 0, .slice none 0 0, .float .f64 0, .int .i64 0, .int .i64 0, .int .i64 0, .int .i64 0, .int .i64 0, .int .i64 0, .int .i64 0, .int .i64 0, .int .i64 0, .int .i64 0] 27)) ∧ Bx ((((w.alloc (.cells #[.slice none 0 0, .slice none 0 0, .slice none 0 0, .float .f64 0, .int .i64 0, .int .i64 0, .int .i64 0, .int .i64 0, .int .i64 0, .int .i64 0, .int .i64 0, .int .i64 0, .int .i64 0, .int .i64 0] 27)).alloc (.cells #[.int .i64 0, .int .i64 0] 37)).alloc (.cells #[.slice none 0 0, .slice none 0 0, .slice none 0 0, .float .f64 0, .int .i64 0, .int .i64 0, .int .i64 0, .int .i64 0, .int .i64 0, .int .i64 0, .int .i64 0, .int .i64 0, .int .i64 0, .int .i64 0] 27)).alloc (.cells #[.slice none 0 0, .slice none 0 0, .slice none 0 0, .float .f64 0, .int .i64 0, .int .i64 0, .int .i64 0, .int .i64 0, .int .i64 0, .int .i64 0, .int .i64 0, .int .i64 0, .int .i64 0, .int .i64 0] 27)) w.heap.size #[.slice none 0 0, .slice none 0 0, .slice none 0 0, .float .f64 0, .int .i64 0, .int .i64 0, .int .i64 0, .int .i64 0, .int .i64 0, .int .i64 0, .int .i64 0, .int .i64 0, .int .i64 0, .int .i64 0] 27 ∧ Bx ((((w.alloc (.cells #[.slice none 0 0, .slice none 0 0, .slice none 0 0, .float .f64 0, .int .i64 0, .int .i64 0, .int .i64 0, .int .i64 0, .int .i64 0, .int .i64 0, .int .i64 0, .int .i64 0, .int .i64 0, .int .i64 0] 27)).alloc (.cells #[.int .i64 0, .int .i64 0] 37)).alloc (.cells #[.slice none 0 0, .slice none 0 0, .slice none 0 0, .float .f64 0, .int .i64 0, .int .i64 0, .int .i64 0, .int .i64 0, .int .i64 0, .int .i64 0, .int .i64 0, .int .i64 0, .int .i64 0, .int .i64 0] 27)).alloc (.cells #[.slice none 0 0, .slice none 0 0, .slice none 0 0, .float .f64 0, .int .i64 0, .int .i64 0, .int .i64 0, .int .i64 0, .int .i64 0, .int .i64 0, .int .i64 0, .int .i64 0, .int .i64 0, .int .i64 0] 27)) (w.heap.size + 1) #[.int .i64 0, .int .i64 0] 37 ∧ Bx ((((w.alloc (.cells #[.slice none 0 0, .slice none 0 0, .slice none 0 0, .float .f64 0, .int .i64 0, .int .i64 0, .int .i64 0, .int .i64 0, .int .i64 0, .int .i64 0, .int .i64 0, .int .i64 0, .int .i64 0, .int .i64 0] 27)).alloc (.cells #[.int .i64 0, .int .i64 0] 37)).alloc (.cells #[.slice none 0 0, .slice none 0 0, .slice none 0 0, .float .f64 0, .int .i64 0, .int .i64 0, .int .i64 0, .int .i64 0, .int .i64 0, .int .i64 0, .int .i64 0, .int .i64 0, .int .i64 0, .int .i64 0] 27)).alloc (.cells #[.slice none 0 0, .slice none 0 0, .slice none 0 0, .float .f64 0, .int .i64 0, .int .i64 0, .int .i64 0, .int .i64 0, .int .i64 0, .int .i64 0, .int .i64 0, .int .i64 0, .int .i64 0, .int .i64 0] 27)) (w.heap.size + 1 + 1) #[.slice none 0 0, .slice none 0 0, .slice none 0 0, .float .f64 0, .int .i64 0, .int .i64 0, .int .i64 0, .int .i64 0, .int .i64 0, .int .i64 0, .int .i64 0, .int .i64 0, .int .i64 0, .int .i64 0] 27 ∧ Bx ((((w.alloc (.cells #[.slice none 0 0, .slice none 0 0, .slice none 0 0, .float .f64 0, .int .i64 0, .int .i64 0, .int .i64 0, .int .i64 0, .int .i64 0, .int .i64 0, .int .i64 0, .int .i64 0, .int .i64 0, .int .i64 0] 27)).alloc (.cells #[.int .i64 0, .int .i64 0] 37)).alloc (.cells #[.slice none 0 0, .slice none 0 0, .slice none 0 0, .float .f64 0, .int .i64 0, .int .i64 0, .int .i64 0, .int .i64 0, .int .i64 0, .int .i64 0, .int .i64 0, .int .i64 0, .int .i64 0, .int .i64 0] 27)).alloc (.cells #[.slice none 0 0, .slice none 0 0, .slice none 0 0, .float .f64 0, .int .i64 0, .int .i64 0, .int .i64 0, .int .i64 0, .int .i64 0, .int .i64 0, .int .i64 0, .int .i64 0, .int .i64 0, .int .i64 0] 27)) (w.heap.size + 1 + 1 + 1) #[.slice none 0 0, .slice none 0 0, .slice none 0 0, .float .f64 0, .int .i64 0, .int .i64 0, .int .i64 0, .int .i64 0, .int .i64 0, .int .i64 0, .int .i64 0, .int .i64 0, .int .i64 0, .int .i64 0] 27) := hide (four_boxes w _ _ _ _ _ _ _ _)
  obtain ⟨B, HBe⟩ : ∃ B, Hid (w.heap.size = B) := ⟨_, rfl⟩
  rw [unhide HBe] at HX0 ⊢
  generalize ((((w.alloc (.cells #[.slice none 0 0, .slice none 0 0, .slice none 0 0, .float .f64 0, .int .i64 0, .int .i64 0, .int .i64 0, .int .i64 0, .int .i64 0, .int .i64 0, .int .i64 0, .int .i64 0, .int .i64 0, .int .i64 0] 27)).alloc (.cells #[.int .i64 0, .int .i64 0] 37)).alloc (.cells #[.slice none 0 0, .slice none 0 0, .slice none 0 0, .float .f64 0, .int .i64 0, .int .i64 0, .int .i64 0, .int .i64 0, .int .i64 0, .int .i64 0, .int .i64 0, .int .i64 0, .int .i64 0, .int .i64 0] 27)).alloc (.cells #[.slice none 0 0, .slice none 0 0, .slice none 0 0, .float .f64 0, .int .i64 0, .int .i64 0, .int .i64 0, .int .i64 0, .int .i64 0, .int .i64 0, .int .i64 0, .int .i64 0, .int .i64 0, .int .i64 0] 27)) = w0 at *
  obtain ⟨R1, hR1⟩ : ∃ x, B + 1 = x := ⟨_, rfl⟩
  obtain ⟨X0, hX0⟩ : ∃ x, B + 1 + 1 = x := ⟨_, rfl⟩
  obtain ⟨X1, hX1⟩ : ∃ x, B + 1 + 1 + 1 = x := ⟨_, rfl⟩
  rw [hX1, hX0, hR1] at HX0 ⊢
  have HD : Hid (B < R1 ∧ R1 < X0 ∧ X0 < X1 ∧ X1 < w0.heap.size ∧ w.heap.size = B) := hide ⟨by omega, by omega, by omega, (unhide HX0).2.2.2.2.lt, unhide HBe⟩
  clear hR1 hX0 hX1
  have hbin := (unhide HB).keep (unhide HX0).1
  refine (newreader_any _ ao cap bs hbin.nil hbin.cell hbin.fit).mono ?_
  rintro e w1 ⟨p, g, rfl, hR, hF1, hg, hp⟩
  have HX1 : Hid (Fr (fun _ => False) w w1 ∧ Bx w1 B #[.slice none 0 0, .slice none 0 0, .slice none 0 0, .float .f64 0, .int .i64 0, .int .i64 0, .int .i64 0, .int .i64 0, .int .i64 0, .int .i64 0, .int .i64 0, .int .i64 0, .int .i64 0, .int .i64 0] 27 ∧ Bx w1 R1 #[.int .i64 0, .int .i64 0] 37 ∧ Bx w1 X0 #[.slice none 0 0, .slice none 0 0, .slice none 0 0, .float .f64 0, .int .i64 0, .int .i64 0, .int .i64 0, .int .i64 0, .int .i64 0, .int .i64 0, .int .i64 0, .int .i64 0, .int .i64 0, .int .i64 0] 27 ∧ Bx w1 X1 #[.slice none 0 0, .slice none 0 0, .slice none 0 0, .float .f64 0, .int .i64 0, .int .i64 0, .int .i64 0, .int .i64 0, .int .i64 0, .int .i64 0, .int .i64 0, .int .i64 0, .int .i64 0, .int .i64 0] 27) := hide (by
    obtain ⟨k0, k1, k2, k3, k4⟩ := unhide HX0
    exact ⟨k0.trans hF1 (fun _ _ t => t), k1.keep hF1, k2.keep hF1, k3.keep hF1, k4.keep hF1⟩)
  have HD1 : Hid (X1 < p ∧ X1 < g) := hide (by obtain ⟨d1, d2, d3, d4, d5⟩ := unhide HD; omega)
  have HR1 := hide hR
  clear hR hF1 hg hp hbin HX0
  go_wp2_with fail
  have HX2 : Hid (Fr (fun _ => False) w (w1.alloc (.cells #[.pointer none, .pointer (some ⟨p, 0, none⟩)] 59)) ∧ Bx (w1.alloc (.cells #[.pointer none, .pointer (some ⟨p, 0, none⟩)] 59)) B #[.slice none 0 0, .slice none 0 0, .slice none 0 0, .float .f64 0, .int .i64 0, .int .i64 0, .int .i64 0, .int .i64 0, .int .i64 0, .int .i64 0, .int .i64 0, .int .i64 0, .int .i64 0, .int .i64 0] 27 ∧ Bx (w1.alloc (.cells #[.pointer none, .pointer (some ⟨p, 0, none⟩)] 59)) R1 #[.int .i64 0, .int .i64 0] 37 ∧ Bx (w1.alloc (.cells #[.pointer none, .pointer (some ⟨p, 0, none⟩)] 59)) X1 #[.slice none 0 0, .slice none 0 0, .slice none 0 0, .float .f64 0, .int .i64 0, .int .i64 0, .int .i64 0, .int .i64 0, .int .i64 0, .int .i64 0, .int .i64 0, .int .i64 0, .int .i64 0, .int .i64 0] 27 ∧ Bx (w1.alloc (.cells #[.pointer none, .pointer (some ⟨p, 0, none⟩)] 59)) w1.heap.size #[.pointer none, .pointer (some ⟨p, 0, none⟩)] 59) := hide (by
    obtain ⟨k0, k1, k2, k3, k4⟩ := unhide HX1
    exact ⟨k0.alloc _, k1.alloc _, k2.alloc _, k4.alloc _, Bx.new _ _ _⟩)
  have HB2 : Hid (RB (w1.alloc (.cells #[.pointer none, .pointer (some ⟨p, 0, none⟩)] 59)) p g X0 bs s00 #[.slice none 0 0, .slice none 0 0, .slice none 0 0, .float .f64 0, .int .i64 0, .int .i64 0, .int .i64 0, .int .i64 0, .int .i64 0, .int .i64 0, .int .i64 0, .int .i64 0, .int .i64 0, .int .i64 0] 27) := hide ⟨RAt.alloc (unhide HR1) _, (unhide HX1).2.2.2.1.alloc _, by have := unhide HD; have := unhide HD1; omega, fun _ => by have := unhide HD; have := unhide HD1; omega⟩
  have HBLL : Hid (B < p ∧ R1 < p) := hide (by have := unhide HD; have := unhide HD1; omega)
  have HN : Hid (w1.heap.size ≠ p ∧ w1.heap.size ≠ X0) := hide ⟨by have := RAt.lt (unhide HR1); omega, by have := (unhide HX1).2.2.2.1.lt; omega⟩
  have HP2 : Hid (p < (w1.alloc (.cells #[.pointer none, .pointer (some ⟨p, 0, none⟩)] 59)).heap.size ∧ w.heap.size ≤ (w1.alloc (.cells #[.pointer none, .pointer (some ⟨p, 0, none⟩)] 59)).heap.size) := hide (by
    rw [heap_alloc]
    have h1 := RAt.lt (unhide HR1)
    have h2 := (unhide HX1).1.size
    exact ⟨by omega, by omega⟩)
  generalize w1.alloc (.cells #[.pointer none, .pointer (some ⟨p, 0, none⟩)] 59) = w2 at *
  generalize w1.heap.size = N at *
  refine (tariff_r _ _ _ _ _ _ _ _ _ _ _ (unhide HB2)).mono ?_
  obtain ⟨⟨sa, sb, sc⟩, ⟨sd, se, sf⟩, sg, ⟨s0, s1, s2, s3, s4, s5, s6, s7, s8, s9⟩, sz⟩ := unhide HSH
  rw [unhide Hq, sa, sb, sc, sd, se, sf, sg, s0, s1, s2, s3, s4, s5, s6, s7, s8, s9]
  rintro e w3 ⟨rfl, a0, c0, g0, a1, c1, g1, a2, c2, g2, hB3, ⟨hk0, hk1, hk2⟩, hne, hF3⟩
  have HK3 : Hid (TNew w2 w3 d ⟨a0, c0, a1, c1, a2, c2⟩ g0 g1 g2) := hide ⟨hk0, hk1, hk2, hne, sz⟩
  have RE : Hid (∀ w', TNew w2 w' d ⟨a0, c0, a1, c1, a2, c2⟩ g0 g1 g2 → Calls Tryz.prog 19 #[.agg #[.slice a0 d.st.length c0, .slice a1 d.sp.length c1, .slice a2 d.bd.length c2, .float .f64 d.off, .int .i64 d.bus, .int .i64 d.busDaily, .int .i64 d.busWeekly, .int .i64 d.hopper, .int .i64 d.most, .int .i64 d.longest, .int .i64 d.change, .int .i64 d.passback, .int .i64 d.delay, .int .i64 d.threshold]] w' fun e w'' => e = .returned (.int .i64 (rightE d)) ∧ Fr (fun _ => False) w' w'') := hide (fun w' hN => right_walk w' ⟨a0, c0, a1, c1, a2, c2⟩ d hN.at)
  clear hk0 hk1 hk2 hne sa sb sc sd se sf sg s0 s1 s2 s3 s4 s5 s6 s7 s8 s9 sz
  have HX3 : Hid (Fr (fun _ => False) w w3 ∧ Bx w3 B #[.slice none 0 0, .slice none 0 0, .slice none 0 0, .float .f64 0, .int .i64 0, .int .i64 0, .int .i64 0, .int .i64 0, .int .i64 0, .int .i64 0, .int .i64 0, .int .i64 0, .int .i64 0, .int .i64 0] 27 ∧ Bx w3 R1 #[.int .i64 0, .int .i64 0] 37 ∧ Bx w3 X1 #[.slice none 0 0, .slice none 0 0, .slice none 0 0, .float .f64 0, .int .i64 0, .int .i64 0, .int .i64 0, .int .i64 0, .int .i64 0, .int .i64 0, .int .i64 0, .int .i64 0, .int .i64 0, .int .i64 0] 27 ∧ Bx w3 N #[.pointer none, .pointer (some ⟨p, 0, none⟩)] 59) := hide (by
    obtain ⟨k0, k1, k2, k3, k4⟩ := unhide HX2
    obtain ⟨d1, d2, d3, d4, d5⟩ := unhide HD
    obtain ⟨d6, d7⟩ := unhide HD1
    obtain ⟨d8, d9⟩ := unhide HN
    exact ⟨k0.trans hF3 (fun _ _ t => by omega), k1.frame hF3 (by omega), k2.frame hF3 (by omega), k3.frame hF3 (by omega), k4.frame hF3 (by omega)⟩)
  have HB3 : Hid (RB w3 p g X0 bs q #[.slice a0 d.st.length c0, .slice a1 d.sp.length c1, .slice a2 d.bd.length c2, .float .f64 d.off, .int .i64 d.bus, .int .i64 d.busDaily, .int .i64 d.busWeekly, .int .i64 d.hopper, .int .i64 d.most, .int .i64 d.longest, .int .i64 d.change, .int .i64 d.passback, .int .i64 d.delay, .int .i64 d.threshold] 27) := hide hB3
  have n1 : w3.cell? ⟨N, 1, none⟩ = some (.pointer (some ⟨p, 0, none⟩)) := (unhide HX3).2.2.2.2.cell 1
  clear hB3 hF3 HX2 HB2 HX1 HR1
  go_wp2_with fail
  refine (end_any (unhide HB3).r).mono ?_
  rw [unhide Hz]
  rintro e w4 ⟨rfl, hR4, hF4⟩
  have HX4 : Hid (Fr (fun _ => False) w w4 ∧ Bx w4 B #[.slice none 0 0, .slice none 0 0, .slice none 0 0, .float .f64 0, .int .i64 0, .int .i64 0, .int .i64 0, .int .i64 0, .int .i64 0, .int .i64 0, .int .i64 0, .int .i64 0, .int .i64 0, .int .i64 0] 27 ∧ Bx w4 R1 #[.int .i64 0, .int .i64 0] 37 ∧ Bx w4 X1 #[.slice none 0 0, .slice none 0 0, .slice none 0 0, .float .f64 0, .int .i64 0, .int .i64 0, .int .i64 0, .int .i64 0, .int .i64 0, .int .i64 0, .int .i64 0, .int .i64 0, .int .i64 0, .int .i64 0] 27 ∧ Bx w4 X0 #[.slice a0 d.st.length c0, .slice a1 d.sp.length c1, .slice a2 d.bd.length c2, .float .f64 d.off, .int .i64 d.bus, .int .i64 d.busDaily, .int .i64 d.busWeekly, .int .i64 d.hopper, .int .i64 d.most, .int .i64 d.longest, .int .i64 d.change, .int .i64 d.passback, .int .i64 d.delay, .int .i64 d.threshold] 27) := hide (by
    obtain ⟨k0, k1, k2, k3, k4⟩ := unhide HX3
    obtain ⟨d1, d2, d3, d4, d5⟩ := unhide HD
    obtain ⟨d6, d7⟩ := unhide HD1
    exact ⟨k0.trans hF4 (fun _ _ t => by omega), k1.frame hF4 (by omega), k2.frame hF4 (by omega), k3.frame hF4 (by omega), (unhide HB3).x.frame hF4 (unhide HB3).np⟩)
  have HK4 : Hid (TNew w2 w4 d ⟨a0, c0, a1, c1, a2, c2⟩ g0 g1 g2) := hide ((unhide HK3).go hF4 (fun q hq => by have := unhide HP2; omega))
  clear hR4 hF4 HX3 HB3 n1 HK3
  have zc := unhide HR
  generalize hzc : z.c = c at zc ⊢
  generalize hzf : z.f = f at zc ⊢
  have HRR := hide zc
  clear zc hzc hzf
  have HX5 : Hid (Fr (fun _ => False) w (w4.alloc (.cells #[.int .i64 c, .int .i64 f] 37)) ∧ Bx (w4.alloc (.cells #[.int .i64 c, .int .i64 f] 37)) B #[.slice none 0 0, .slice none 0 0, .slice none 0 0, .float .f64 0, .int .i64 0, .int .i64 0, .int .i64 0, .int .i64 0, .int .i64 0, .int .i64 0, .int .i64 0, .int .i64 0, .int .i64 0, .int .i64 0] 27 ∧ Bx (w4.alloc (.cells #[.int .i64 c, .int .i64 f] 37)) R1 #[.int .i64 0, .int .i64 0] 37 ∧ Bx (w4.alloc (.cells #[.int .i64 c, .int .i64 f] 37)) X1 #[.slice none 0 0, .slice none 0 0, .slice none 0 0, .float .f64 0, .int .i64 0, .int .i64 0, .int .i64 0, .int .i64 0, .int .i64 0, .int .i64 0, .int .i64 0, .int .i64 0, .int .i64 0, .int .i64 0] 27 ∧ Bx (w4.alloc (.cells #[.int .i64 c, .int .i64 f] 37)) X0 #[.slice a0 d.st.length c0, .slice a1 d.sp.length c1, .slice a2 d.bd.length c2, .float .f64 d.off, .int .i64 d.bus, .int .i64 d.busDaily, .int .i64 d.busWeekly, .int .i64 d.hopper, .int .i64 d.most, .int .i64 d.longest, .int .i64 d.change, .int .i64 d.passback, .int .i64 d.delay, .int .i64 d.threshold] 27 ∧ Bx (w4.alloc (.cells #[.int .i64 c, .int .i64 f] 37)) w4.heap.size #[.int .i64 c, .int .i64 f] 37) := hide (by
    obtain ⟨k0, k1, k2, k3, k4⟩ := unhide HX4
    exact ⟨k0.alloc _, k1.alloc _, k2.alloc _, k3.alloc _, k4.alloc _, Bx.new _ _ _⟩)
  have HK5 : Hid (TNew w2 (w4.alloc (.cells #[.int .i64 c, .int .i64 f] 37)) d ⟨a0, c0, a1, c1, a2, c2⟩ g0 g1 g2) := hide ((unhide HK4).go ((Fr.refl (fun _ => False) _).alloc _) (fun q hq => absurd hq (fun t => t)))
  have HFB : Hid (X1 < w4.heap.size) := hide (unhide HX4).2.2.2.1.lt
  by_cases hc : c = 0
  · have hcb : (c != 0) = false := by simp [hc]
    obtain ⟨ev, Hev⟩ : ∃ ev, Hid (rightE d = ev) := ⟨_, rfl⟩
    have HRE : Hid (R = if ev = 0 then (d, 0, 0) else (tarZ, ev, -1)) := hide (by rw [unhide HRR, if_neg (fun h => h hc), unhide Hev])
    simp only [unhide Hev] at RE
    rw [unhide HRE]
    clear hc HRR Hev
    by_cases he : ev = 0
    · subst he
      rw [if_pos rfl] at HRE ⊢
      have y0 : (w4.alloc (.cells #[.int .i64 c, .int .i64 f] 37)).cell? ⟨w4.heap.size, 0, none⟩ = some (.int .i64 c) := (unhide HX5).2.2.2.2.2.cell 0
      have x0 : (w4.alloc (.cells #[.int .i64 c, .int .i64 f] 37)).cell? ⟨X0, 0, none⟩ = some (.slice a0 d.st.length c0) := (unhide HX5).2.2.2.2.1.cell 0
      have x1 : (w4.alloc (.cells #[.int .i64 c, .int .i64 f] 37)).cell? ⟨X0, 1, none⟩ = some (.slice a1 d.sp.length c1) := (unhide HX5).2.2.2.2.1.cell 1
      have x2 : (w4.alloc (.cells #[.int .i64 c, .int .i64 f] 37)).cell? ⟨X0, 2, none⟩ = some (.slice a2 d.bd.length c2) := (unhide HX5).2.2.2.2.1.cell 2
      have x3 : (w4.alloc (.cells #[.int .i64 c, .int .i64 f] 37)).cell? ⟨X0, 3, none⟩ = some (.float .f64 d.off) := (unhide HX5).2.2.2.2.1.cell 3
      have x4 : (w4.alloc (.cells #[.int .i64 c, .int .i64 f] 37)).cell? ⟨X0, 4, none⟩ = some (.int .i64 d.bus) := (unhide HX5).2.2.2.2.1.cell 4
      have x5 : (w4.alloc (.cells #[.int .i64 c, .int .i64 f] 37)).cell? ⟨X0, 5, none⟩ = some (.int .i64 d.busDaily) := (unhide HX5).2.2.2.2.1.cell 5
      have x6 : (w4.alloc (.cells #[.int .i64 c, .int .i64 f] 37)).cell? ⟨X0, 6, none⟩ = some (.int .i64 d.busWeekly) := (unhide HX5).2.2.2.2.1.cell 6
      have x7 : (w4.alloc (.cells #[.int .i64 c, .int .i64 f] 37)).cell? ⟨X0, 7, none⟩ = some (.int .i64 d.hopper) := (unhide HX5).2.2.2.2.1.cell 7
      have x8 : (w4.alloc (.cells #[.int .i64 c, .int .i64 f] 37)).cell? ⟨X0, 8, none⟩ = some (.int .i64 d.most) := (unhide HX5).2.2.2.2.1.cell 8
      have x9 : (w4.alloc (.cells #[.int .i64 c, .int .i64 f] 37)).cell? ⟨X0, 9, none⟩ = some (.int .i64 d.longest) := (unhide HX5).2.2.2.2.1.cell 9
      have x10 : (w4.alloc (.cells #[.int .i64 c, .int .i64 f] 37)).cell? ⟨X0, 10, none⟩ = some (.int .i64 d.change) := (unhide HX5).2.2.2.2.1.cell 10
      have x11 : (w4.alloc (.cells #[.int .i64 c, .int .i64 f] 37)).cell? ⟨X0, 11, none⟩ = some (.int .i64 d.passback) := (unhide HX5).2.2.2.2.1.cell 11
      have x12 : (w4.alloc (.cells #[.int .i64 c, .int .i64 f] 37)).cell? ⟨X0, 12, none⟩ = some (.int .i64 d.delay) := (unhide HX5).2.2.2.2.1.cell 12
      have x13 : (w4.alloc (.cells #[.int .i64 c, .int .i64 f] 37)).cell? ⟨X0, 13, none⟩ = some (.int .i64 d.threshold) := (unhide HX5).2.2.2.2.1.cell 13
      go_wp2_with fail
      refine (unhide RE _ (unhide HK5)).mono ?_
      rintro e w5 ⟨rfl, hF5⟩
      obtain ⟨k0, k1, k2, k3, k4, k5⟩ := unhide HX5
      have HX6 : Hid (Fr (fun _ => False) w w5 ∧ Bx w5 B #[.slice none 0 0, .slice none 0 0, .slice none 0 0, .float .f64 0, .int .i64 0, .int .i64 0, .int .i64 0, .int .i64 0, .int .i64 0, .int .i64 0, .int .i64 0, .int .i64 0, .int .i64 0, .int .i64 0] 27 ∧ Bx w5 R1 #[.int .i64 0, .int .i64 0] 37 ∧ Bx w5 X1 #[.slice none 0 0, .slice none 0 0, .slice none 0 0, .float .f64 0, .int .i64 0, .int .i64 0, .int .i64 0, .int .i64 0, .int .i64 0, .int .i64 0, .int .i64 0, .int .i64 0, .int .i64 0, .int .i64 0] 27 ∧ Bx w5 X0 #[.slice a0 d.st.length c0, .slice a1 d.sp.length c1, .slice a2 d.bd.length c2, .float .f64 d.off, .int .i64 d.bus, .int .i64 d.busDaily, .int .i64 d.busWeekly, .int .i64 d.hopper, .int .i64 d.most, .int .i64 d.longest, .int .i64 d.change, .int .i64 d.passback, .int .i64 d.delay, .int .i64 d.threshold] 27) := hide ⟨k0.trans hF5 (fun _ _ t => t), k1.keep hF5, k2.keep hF5, k3.keep hF5, k4.keep hF5⟩
      have HK6 : Hid (TNew w2 w5 d ⟨a0, c0, a1, c1, a2, c2⟩ g0 g1 g2) := hide ((unhide HK5).go hF5 (fun q hq => absurd hq (fun t => t)))
      clear k0 k1 k2 k3 k4 k5 hF5 y0 x0 x1 x2 x3 x4 x5 x6 x7 x8 x9 x10 x11 x12 x13
      have HBL : Hid (¬ B < w.heap.size ∧ ¬ R1 < w.heap.size) := hide (by have := unhide HD; omega)
      obtain ⟨d1, d2, d3, d4, d5⟩ := unhide HD
      have hBR : B ≠ R1 := by omega
      have hRB : R1 ≠ B := by omega
      have hBX : B ≠ X1 := by omega
      have hXB : X1 ≠ B := by omega
      have hBY : B ≠ X0 := by omega
      have hYB : X0 ≠ B := by omega
      clear d1 d2 d3 d4 d5
      have x0 : w5.cell? ⟨X0, 0, none⟩ = some (.slice a0 d.st.length c0) := (unhide HX6).2.2.2.2.cell 0
      have x1 : w5.cell? ⟨X0, 1, none⟩ = some (.slice a1 d.sp.length c1) := (unhide HX6).2.2.2.2.cell 1
      have x2 : w5.cell? ⟨X0, 2, none⟩ = some (.slice a2 d.bd.length c2) := (unhide HX6).2.2.2.2.cell 2
      have x3 : w5.cell? ⟨X0, 3, none⟩ = some (.float .f64 d.off) := (unhide HX6).2.2.2.2.cell 3
      have x4 : w5.cell? ⟨X0, 4, none⟩ = some (.int .i64 d.bus) := (unhide HX6).2.2.2.2.cell 4
      have x5 : w5.cell? ⟨X0, 5, none⟩ = some (.int .i64 d.busDaily) := (unhide HX6).2.2.2.2.cell 5
      have x6 : w5.cell? ⟨X0, 6, none⟩ = some (.int .i64 d.busWeekly) := (unhide HX6).2.2.2.2.cell 6
      have x7 : w5.cell? ⟨X0, 7, none⟩ = some (.int .i64 d.hopper) := (unhide HX6).2.2.2.2.cell 7
      have x8 : w5.cell? ⟨X0, 8, none⟩ = some (.int .i64 d.most) := (unhide HX6).2.2.2.2.cell 8
      have x9 : w5.cell? ⟨X0, 9, none⟩ = some (.int .i64 d.longest) := (unhide HX6).2.2.2.2.cell 9
      have x10 : w5.cell? ⟨X0, 10, none⟩ = some (.int .i64 d.change) := (unhide HX6).2.2.2.2.cell 10
      have x11 : w5.cell? ⟨X0, 11, none⟩ = some (.int .i64 d.passback) := (unhide HX6).2.2.2.2.cell 11
      have x12 : w5.cell? ⟨X0, 12, none⟩ = some (.int .i64 d.delay) := (unhide HX6).2.2.2.2.cell 12
      have x13 : w5.cell? ⟨X0, 13, none⟩ = some (.int .i64 d.threshold) := (unhide HX6).2.2.2.2.cell 13
      have r0 : w5.cell? ⟨B, 0, none⟩ = some (.slice none 0 0) := (unhide HX6).2.1.cell 0
      have s0 : w5.frozen? ⟨B, 0, none⟩ = false := (unhide HX6).2.1.frozen 0
      have r1 : w5.cell? ⟨B, 1, none⟩ = some (.slice none 0 0) := (unhide HX6).2.1.cell 1
      have s1 : w5.frozen? ⟨B, 1, none⟩ = false := (unhide HX6).2.1.frozen 1
      have r2 : w5.cell? ⟨B, 2, none⟩ = some (.slice none 0 0) := (unhide HX6).2.1.cell 2
      have s2 : w5.frozen? ⟨B, 2, none⟩ = false := (unhide HX6).2.1.frozen 2
      have r3 : w5.cell? ⟨B, 3, none⟩ = some (.float .f64 0) := (unhide HX6).2.1.cell 3
      have s3 : w5.frozen? ⟨B, 3, none⟩ = false := (unhide HX6).2.1.frozen 3
      have r4 : w5.cell? ⟨B, 4, none⟩ = some (.int .i64 0) := (unhide HX6).2.1.cell 4
      have s4 : w5.frozen? ⟨B, 4, none⟩ = false := (unhide HX6).2.1.frozen 4
      have r5 : w5.cell? ⟨B, 5, none⟩ = some (.int .i64 0) := (unhide HX6).2.1.cell 5
      have s5 : w5.frozen? ⟨B, 5, none⟩ = false := (unhide HX6).2.1.frozen 5
      have r6 : w5.cell? ⟨B, 6, none⟩ = some (.int .i64 0) := (unhide HX6).2.1.cell 6
      have s6 : w5.frozen? ⟨B, 6, none⟩ = false := (unhide HX6).2.1.frozen 6
      have r7 : w5.cell? ⟨B, 7, none⟩ = some (.int .i64 0) := (unhide HX6).2.1.cell 7
      have s7 : w5.frozen? ⟨B, 7, none⟩ = false := (unhide HX6).2.1.frozen 7
      have r8 : w5.cell? ⟨B, 8, none⟩ = some (.int .i64 0) := (unhide HX6).2.1.cell 8
      have s8 : w5.frozen? ⟨B, 8, none⟩ = false := (unhide HX6).2.1.frozen 8
      have r9 : w5.cell? ⟨B, 9, none⟩ = some (.int .i64 0) := (unhide HX6).2.1.cell 9
      have s9 : w5.frozen? ⟨B, 9, none⟩ = false := (unhide HX6).2.1.frozen 9
      have r10 : w5.cell? ⟨B, 10, none⟩ = some (.int .i64 0) := (unhide HX6).2.1.cell 10
      have s10 : w5.frozen? ⟨B, 10, none⟩ = false := (unhide HX6).2.1.frozen 10
      have r11 : w5.cell? ⟨B, 11, none⟩ = some (.int .i64 0) := (unhide HX6).2.1.cell 11
      have s11 : w5.frozen? ⟨B, 11, none⟩ = false := (unhide HX6).2.1.frozen 11
      have r12 : w5.cell? ⟨B, 12, none⟩ = some (.int .i64 0) := (unhide HX6).2.1.cell 12
      have s12 : w5.frozen? ⟨B, 12, none⟩ = false := (unhide HX6).2.1.frozen 12
      have r13 : w5.cell? ⟨B, 13, none⟩ = some (.int .i64 0) := (unhide HX6).2.1.cell 13
      have s13 : w5.frozen? ⟨B, 13, none⟩ = false := (unhide HX6).2.1.frozen 13
      have u0 : w5.cell? ⟨R1, 0, none⟩ = some (.int .i64 0) := (unhide HX6).2.2.1.cell 0
      have v0 : w5.frozen? ⟨R1, 0, none⟩ = false := (unhide HX6).2.2.1.frozen 0
      have u1 : w5.cell? ⟨R1, 1, none⟩ = some (.int .i64 0) := (unhide HX6).2.2.1.cell 1
      have v1 : w5.frozen? ⟨R1, 1, none⟩ = false := (unhide HX6).2.2.1.frozen 1
      go_wp2
      obtain ⟨k0, k1, k2, k3, k4⟩ := unhide HX6
      have e1 : Bx _ B #[.slice a0 d.st.length c0, .slice none 0 0, .slice none 0 0, .float .f64 0, .int .i64 0, .int .i64 0, .int .i64 0, .int .i64 0, .int .i64 0, .int .i64 0, .int .i64 0, .int .i64 0, .int .i64 0, .int .i64 0] 27 := Bx.setCell k1 0 (.slice a0 d.st.length c0)
      have e1 : Bx _ B #[.slice a0 d.st.length c0, .slice a1 d.sp.length c1, .slice none 0 0, .float .f64 0, .int .i64 0, .int .i64 0, .int .i64 0, .int .i64 0, .int .i64 0, .int .i64 0, .int .i64 0, .int .i64 0, .int .i64 0, .int .i64 0] 27 := Bx.setCell e1 1 (.slice a1 d.sp.length c1)
      have e1 : Bx _ B #[.slice a0 d.st.length c0, .slice a1 d.sp.length c1, .slice a2 d.bd.length c2, .float .f64 0, .int .i64 0, .int .i64 0, .int .i64 0, .int .i64 0, .int .i64 0, .int .i64 0, .int .i64 0, .int .i64 0, .int .i64 0, .int .i64 0] 27 := Bx.setCell e1 2 (.slice a2 d.bd.length c2)
      have e1 : Bx _ B #[.slice a0 d.st.length c0, .slice a1 d.sp.length c1, .slice a2 d.bd.length c2, .float .f64 d.off, .int .i64 0, .int .i64 0, .int .i64 0, .int .i64 0, .int .i64 0, .int .i64 0, .int .i64 0, .int .i64 0, .int .i64 0, .int .i64 0] 27 := Bx.setCell e1 3 (.float .f64 d.off)
      have e1 : Bx _ B #[.slice a0 d.st.length c0, .slice a1 d.sp.length c1, .slice a2 d.bd.length c2, .float .f64 d.off, .int .i64 d.bus, .int .i64 0, .int .i64 0, .int .i64 0, .int .i64 0, .int .i64 0, .int .i64 0, .int .i64 0, .int .i64 0, .int .i64 0] 27 := Bx.setCell e1 4 (.int .i64 d.bus)
      have e1 : Bx _ B #[.slice a0 d.st.length c0, .slice a1 d.sp.length c1, .slice a2 d.bd.length c2, .float .f64 d.off, .int .i64 d.bus, .int .i64 d.busDaily, .int .i64 0, .int .i64 0, .int .i64 0, .int .i64 0, .int .i64 0, .int .i64 0, .int .i64 0, .int .i64 0] 27 := Bx.setCell e1 5 (.int .i64 d.busDaily)
      have e1 : Bx _ B #[.slice a0 d.st.length c0, .slice a1 d.sp.length c1, .slice a2 d.bd.length c2, .float .f64 d.off, .int .i64 d.bus, .int .i64 d.busDaily, .int .i64 d.busWeekly, .int .i64 0, .int .i64 0, .int .i64 0, .int .i64 0, .int .i64 0, .int .i64 0, .int .i64 0] 27 := Bx.setCell e1 6 (.int .i64 d.busWeekly)
      have e1 : Bx _ B #[.slice a0 d.st.length c0, .slice a1 d.sp.length c1, .slice a2 d.bd.length c2, .float .f64 d.off, .int .i64 d.bus, .int .i64 d.busDaily, .int .i64 d.busWeekly, .int .i64 d.hopper, .int .i64 0, .int .i64 0, .int .i64 0, .int .i64 0, .int .i64 0, .int .i64 0] 27 := Bx.setCell e1 7 (.int .i64 d.hopper)
      have e1 : Bx _ B #[.slice a0 d.st.length c0, .slice a1 d.sp.length c1, .slice a2 d.bd.length c2, .float .f64 d.off, .int .i64 d.bus, .int .i64 d.busDaily, .int .i64 d.busWeekly, .int .i64 d.hopper, .int .i64 d.most, .int .i64 0, .int .i64 0, .int .i64 0, .int .i64 0, .int .i64 0] 27 := Bx.setCell e1 8 (.int .i64 d.most)
      have e1 : Bx _ B #[.slice a0 d.st.length c0, .slice a1 d.sp.length c1, .slice a2 d.bd.length c2, .float .f64 d.off, .int .i64 d.bus, .int .i64 d.busDaily, .int .i64 d.busWeekly, .int .i64 d.hopper, .int .i64 d.most, .int .i64 d.longest, .int .i64 0, .int .i64 0, .int .i64 0, .int .i64 0] 27 := Bx.setCell e1 9 (.int .i64 d.longest)
      have e1 : Bx _ B #[.slice a0 d.st.length c0, .slice a1 d.sp.length c1, .slice a2 d.bd.length c2, .float .f64 d.off, .int .i64 d.bus, .int .i64 d.busDaily, .int .i64 d.busWeekly, .int .i64 d.hopper, .int .i64 d.most, .int .i64 d.longest, .int .i64 d.change, .int .i64 0, .int .i64 0, .int .i64 0] 27 := Bx.setCell e1 10 (.int .i64 d.change)
      have e1 : Bx _ B #[.slice a0 d.st.length c0, .slice a1 d.sp.length c1, .slice a2 d.bd.length c2, .float .f64 d.off, .int .i64 d.bus, .int .i64 d.busDaily, .int .i64 d.busWeekly, .int .i64 d.hopper, .int .i64 d.most, .int .i64 d.longest, .int .i64 d.change, .int .i64 d.passback, .int .i64 0, .int .i64 0] 27 := Bx.setCell e1 11 (.int .i64 d.passback)
      have e1 : Bx _ B #[.slice a0 d.st.length c0, .slice a1 d.sp.length c1, .slice a2 d.bd.length c2, .float .f64 d.off, .int .i64 d.bus, .int .i64 d.busDaily, .int .i64 d.busWeekly, .int .i64 d.hopper, .int .i64 d.most, .int .i64 d.longest, .int .i64 d.change, .int .i64 d.passback, .int .i64 d.delay, .int .i64 0] 27 := Bx.setCell e1 12 (.int .i64 d.delay)
      have e1 : Bx _ B #[.slice a0 d.st.length c0, .slice a1 d.sp.length c1, .slice a2 d.bd.length c2, .float .f64 d.off, .int .i64 d.bus, .int .i64 d.busDaily, .int .i64 d.busWeekly, .int .i64 d.hopper, .int .i64 d.most, .int .i64 d.longest, .int .i64 d.change, .int .i64 d.passback, .int .i64 d.delay, .int .i64 d.threshold] 27 := Bx.setCell e1 13 (.int .i64 d.threshold)
      have e1 : Bx _ B #[.slice a0 d.st.length c0, .slice a1 d.sp.length c1, .slice a2 d.bd.length c2, .float .f64 d.off, .int .i64 d.bus, .int .i64 d.busDaily, .int .i64 d.busWeekly, .int .i64 d.hopper, .int .i64 d.most, .int .i64 d.longest, .int .i64 d.change, .int .i64 d.passback, .int .i64 d.delay, .int .i64 d.threshold] 27 := Bx.setOther e1 hBR 0 (.int .i64 0)
      have e1 : Bx _ B #[.slice a0 d.st.length c0, .slice a1 d.sp.length c1, .slice a2 d.bd.length c2, .float .f64 d.off, .int .i64 d.bus, .int .i64 d.busDaily, .int .i64 d.busWeekly, .int .i64 d.hopper, .int .i64 d.most, .int .i64 d.longest, .int .i64 d.change, .int .i64 d.passback, .int .i64 d.delay, .int .i64 d.threshold] 27 := Bx.setOther e1 hBR 1 (.int .i64 0)
      have e2 := (Bx.setCell (Bx.setCell (Bx.setOther (Bx.setOther (Bx.setOther (Bx.setOther (Bx.setOther (Bx.setOther (Bx.setOther (Bx.setOther (Bx.setOther (Bx.setOther (Bx.setOther (Bx.setOther (Bx.setOther (Bx.setOther k2 hRB 0 (.slice a0 d.st.length c0)) hRB 1 (.slice a1 d.sp.length c1)) hRB 2 (.slice a2 d.bd.length c2)) hRB 3 (.float .f64 d.off)) hRB 4 (.int .i64 d.bus)) hRB 5 (.int .i64 d.busDaily)) hRB 6 (.int .i64 d.busWeekly)) hRB 7 (.int .i64 d.hopper)) hRB 8 (.int .i64 d.most)) hRB 9 (.int .i64 d.longest)) hRB 10 (.int .i64 d.change)) hRB 11 (.int .i64 d.passback)) hRB 12 (.int .i64 d.delay)) hRB 13 (.int .i64 d.threshold)) 0 (.int .i64 0)) 1 (.int .i64 0))
      have e3 : Fr (fun _ => False) w (((((((((((((((((w5.setCell ⟨B, 0, none⟩ (.slice a0 d.st.length c0)).setCell ⟨B, 1, none⟩ (.slice a1 d.sp.length c1)).setCell ⟨B, 2, none⟩ (.slice a2 d.bd.length c2)).setCell ⟨B, 3, none⟩ (.float .f64 d.off)).setCell ⟨B, 4, none⟩ (.int .i64 d.bus)).setCell ⟨B, 5, none⟩ (.int .i64 d.busDaily)).setCell ⟨B, 6, none⟩ (.int .i64 d.busWeekly)).setCell ⟨B, 7, none⟩ (.int .i64 d.hopper)).setCell ⟨B, 8, none⟩ (.int .i64 d.most)).setCell ⟨B, 9, none⟩ (.int .i64 d.longest)).setCell ⟨B, 10, none⟩ (.int .i64 d.change)).setCell ⟨B, 11, none⟩ (.int .i64 d.passback)).setCell ⟨B, 12, none⟩ (.int .i64 d.delay)).setCell ⟨B, 13, none⟩ (.int .i64 d.threshold)).setCell ⟨R1, 0, none⟩ (.int .i64 0)).setCell ⟨R1, 1, none⟩ (.int .i64 0))) := (Fr.setCell (Fr.setCell (Fr.setCell (Fr.setCell (Fr.setCell (Fr.setCell (Fr.setCell (Fr.setCell (Fr.setCell (Fr.setCell (Fr.setCell (Fr.setCell (Fr.setCell (Fr.setCell (Fr.setCell (Fr.setCell k0 (p := ⟨B, 0, none⟩) (fun h => absurd h (unhide HBL).1) (.slice a0 d.st.length c0)) (p := ⟨B, 1, none⟩) (fun h => absurd h (unhide HBL).1) (.slice a1 d.sp.length c1)) (p := ⟨B, 2, none⟩) (fun h => absurd h (unhide HBL).1) (.slice a2 d.bd.length c2)) (p := ⟨B, 3, none⟩) (fun h => absurd h (unhide HBL).1) (.float .f64 d.off)) (p := ⟨B, 4, none⟩) (fun h => absurd h (unhide HBL).1) (.int .i64 d.bus)) (p := ⟨B, 5, none⟩) (fun h => absurd h (unhide HBL).1) (.int .i64 d.busDaily)) (p := ⟨B, 6, none⟩) (fun h => absurd h (unhide HBL).1) (.int .i64 d.busWeekly)) (p := ⟨B, 7, none⟩) (fun h => absurd h (unhide HBL).1) (.int .i64 d.hopper)) (p := ⟨B, 8, none⟩) (fun h => absurd h (unhide HBL).1) (.int .i64 d.most)) (p := ⟨B, 9, none⟩) (fun h => absurd h (unhide HBL).1) (.int .i64 d.longest)) (p := ⟨B, 10, none⟩) (fun h => absurd h (unhide HBL).1) (.int .i64 d.change)) (p := ⟨B, 11, none⟩) (fun h => absurd h (unhide HBL).1) (.int .i64 d.passback)) (p := ⟨B, 12, none⟩) (fun h => absurd h (unhide HBL).1) (.int .i64 d.delay)) (p := ⟨B, 13, none⟩) (fun h => absurd h (unhide HBL).1) (.int .i64 d.threshold)) (p := ⟨R1, 0, none⟩) (fun h => absurd h (unhide HBL).2) (.int .i64 0)) (p := ⟨R1, 1, none⟩) (fun h => absurd h (unhide HBL).2) (.int .i64 0))
      exact bodyPost_ret (v := .tuple #[.agg #[.slice a0 d.st.length c0, .slice a1 d.sp.length c1, .slice a2 d.bd.length c2, .float .f64 d.off, .int .i64 d.bus, .int .i64 d.busDaily, .int .i64 d.busWeekly, .int .i64 d.hopper, .int .i64 d.most, .int .i64 d.longest, .int .i64 d.change, .int .i64 d.passback, .int .i64 d.delay, .int .i64 d.threshold], .agg #[.int .i64 0, .int .i64 0]]) (results_bx2 rfl _ rfl rfl e1 e2 Tryz.underlying27 rfl (tar_size _ rfl) Tryz.underlying37 rfl (fault_size _ _)) rfl ⟨⟨a0, c0, a1, c1, a2, c2⟩, g0, g1, g2, by first | rfl | (rw [unhide HRE]; rfl), (by first | exact TNew.later (TNew.go (unhide HK6) (S := fun q => q = B ∨ q = R1) ((Fr.setCell (Fr.setCell (Fr.setCell (Fr.setCell (Fr.setCell (Fr.setCell (Fr.setCell (Fr.setCell (Fr.setCell (Fr.setCell (Fr.setCell (Fr.setCell (Fr.setCell (Fr.setCell (Fr.setCell (Fr.setCell (Fr.refl _ w5) (p := ⟨B, 0, none⟩) (fun _ => Or.inl rfl) (.slice a0 d.st.length c0)) (p := ⟨B, 1, none⟩) (fun _ => Or.inl rfl) (.slice a1 d.sp.length c1)) (p := ⟨B, 2, none⟩) (fun _ => Or.inl rfl) (.slice a2 d.bd.length c2)) (p := ⟨B, 3, none⟩) (fun _ => Or.inl rfl) (.float .f64 d.off)) (p := ⟨B, 4, none⟩) (fun _ => Or.inl rfl) (.int .i64 d.bus)) (p := ⟨B, 5, none⟩) (fun _ => Or.inl rfl) (.int .i64 d.busDaily)) (p := ⟨B, 6, none⟩) (fun _ => Or.inl rfl) (.int .i64 d.busWeekly)) (p := ⟨B, 7, none⟩) (fun _ => Or.inl rfl) (.int .i64 d.hopper)) (p := ⟨B, 8, none⟩) (fun _ => Or.inl rfl) (.int .i64 d.most)) (p := ⟨B, 9, none⟩) (fun _ => Or.inl rfl) (.int .i64 d.longest)) (p := ⟨B, 10, none⟩) (fun _ => Or.inl rfl) (.int .i64 d.change)) (p := ⟨B, 11, none⟩) (fun _ => Or.inl rfl) (.int .i64 d.passback)) (p := ⟨B, 12, none⟩) (fun _ => Or.inl rfl) (.int .i64 d.delay)) (p := ⟨B, 13, none⟩) (fun _ => Or.inl rfl) (.int .i64 d.threshold)) (p := ⟨R1, 0, none⟩) (fun _ => Or.inr rfl) (.int .i64 0)) (p := ⟨R1, 1, none⟩) (fun _ => Or.inr rfl) (.int .i64 0))) (fun q hq => by have := unhide HP2; have := unhide HBLL; omega)) (unhide HP2).2 | (rw [unhide HRE]; exact TNew.later (TNew.go (unhide HK6) (S := fun q => q = B ∨ q = R1) ((Fr.setCell (Fr.setCell (Fr.setCell (Fr.setCell (Fr.setCell (Fr.setCell (Fr.setCell (Fr.setCell (Fr.setCell (Fr.setCell (Fr.setCell (Fr.setCell (Fr.setCell (Fr.setCell (Fr.setCell (Fr.setCell (Fr.refl _ w5) (p := ⟨B, 0, none⟩) (fun _ => Or.inl rfl) (.slice a0 d.st.length c0)) (p := ⟨B, 1, none⟩) (fun _ => Or.inl rfl) (.slice a1 d.sp.length c1)) (p := ⟨B, 2, none⟩) (fun _ => Or.inl rfl) (.slice a2 d.bd.length c2)) (p := ⟨B, 3, none⟩) (fun _ => Or.inl rfl) (.float .f64 d.off)) (p := ⟨B, 4, none⟩) (fun _ => Or.inl rfl) (.int .i64 d.bus)) (p := ⟨B, 5, none⟩) (fun _ => Or.inl rfl) (.int .i64 d.busDaily)) (p := ⟨B, 6, none⟩) (fun _ => Or.inl rfl) (.int .i64 d.busWeekly)) (p := ⟨B, 7, none⟩) (fun _ => Or.inl rfl) (.int .i64 d.hopper)) (p := ⟨B, 8, none⟩) (fun _ => Or.inl rfl) (.int .i64 d.most)) (p := ⟨B, 9, none⟩) (fun _ => Or.inl rfl) (.int .i64 d.longest)) (p := ⟨B, 10, none⟩) (fun _ => Or.inl rfl) (.int .i64 d.change)) (p := ⟨B, 11, none⟩) (fun _ => Or.inl rfl) (.int .i64 d.passback)) (p := ⟨B, 12, none⟩) (fun _ => Or.inl rfl) (.int .i64 d.delay)) (p := ⟨B, 13, none⟩) (fun _ => Or.inl rfl) (.int .i64 d.threshold)) (p := ⟨R1, 0, none⟩) (fun _ => Or.inr rfl) (.int .i64 0)) (p := ⟨R1, 1, none⟩) (fun _ => Or.inr rfl) (.int .i64 0))) (fun q hq => by have := unhide HP2; have := unhide HBLL; omega)) (unhide HP2).2)), e3⟩
    · have hev : (ev != 0) = true := by simp [he]
      rw [if_neg he] at HRE ⊢
      clear he
      have y0 : (w4.alloc (.cells #[.int .i64 c, .int .i64 f] 37)).cell? ⟨w4.heap.size, 0, none⟩ = some (.int .i64 c) := (unhide HX5).2.2.2.2.2.cell 0
      have x0 : (w4.alloc (.cells #[.int .i64 c, .int .i64 f] 37)).cell? ⟨X0, 0, none⟩ = some (.slice a0 d.st.length c0) := (unhide HX5).2.2.2.2.1.cell 0
      have x1 : (w4.alloc (.cells #[.int .i64 c, .int .i64 f] 37)).cell? ⟨X0, 1, none⟩ = some (.slice a1 d.sp.length c1) := (unhide HX5).2.2.2.2.1.cell 1
      have x2 : (w4.alloc (.cells #[.int .i64 c, .int .i64 f] 37)).cell? ⟨X0, 2, none⟩ = some (.slice a2 d.bd.length c2) := (unhide HX5).2.2.2.2.1.cell 2
      have x3 : (w4.alloc (.cells #[.int .i64 c, .int .i64 f] 37)).cell? ⟨X0, 3, none⟩ = some (.float .f64 d.off) := (unhide HX5).2.2.2.2.1.cell 3
      have x4 : (w4.alloc (.cells #[.int .i64 c, .int .i64 f] 37)).cell? ⟨X0, 4, none⟩ = some (.int .i64 d.bus) := (unhide HX5).2.2.2.2.1.cell 4
      have x5 : (w4.alloc (.cells #[.int .i64 c, .int .i64 f] 37)).cell? ⟨X0, 5, none⟩ = some (.int .i64 d.busDaily) := (unhide HX5).2.2.2.2.1.cell 5
      have x6 : (w4.alloc (.cells #[.int .i64 c, .int .i64 f] 37)).cell? ⟨X0, 6, none⟩ = some (.int .i64 d.busWeekly) := (unhide HX5).2.2.2.2.1.cell 6
      have x7 : (w4.alloc (.cells #[.int .i64 c, .int .i64 f] 37)).cell? ⟨X0, 7, none⟩ = some (.int .i64 d.hopper) := (unhide HX5).2.2.2.2.1.cell 7
      have x8 : (w4.alloc (.cells #[.int .i64 c, .int .i64 f] 37)).cell? ⟨X0, 8, none⟩ = some (.int .i64 d.most) := (unhide HX5).2.2.2.2.1.cell 8
      have x9 : (w4.alloc (.cells #[.int .i64 c, .int .i64 f] 37)).cell? ⟨X0, 9, none⟩ = some (.int .i64 d.longest) := (unhide HX5).2.2.2.2.1.cell 9
      have x10 : (w4.alloc (.cells #[.int .i64 c, .int .i64 f] 37)).cell? ⟨X0, 10, none⟩ = some (.int .i64 d.change) := (unhide HX5).2.2.2.2.1.cell 10
      have x11 : (w4.alloc (.cells #[.int .i64 c, .int .i64 f] 37)).cell? ⟨X0, 11, none⟩ = some (.int .i64 d.passback) := (unhide HX5).2.2.2.2.1.cell 11
      have x12 : (w4.alloc (.cells #[.int .i64 c, .int .i64 f] 37)).cell? ⟨X0, 12, none⟩ = some (.int .i64 d.delay) := (unhide HX5).2.2.2.2.1.cell 12
      have x13 : (w4.alloc (.cells #[.int .i64 c, .int .i64 f] 37)).cell? ⟨X0, 13, none⟩ = some (.int .i64 d.threshold) := (unhide HX5).2.2.2.2.1.cell 13
      go_wp2_with fail
      refine (unhide RE _ (unhide HK5)).mono ?_
      rintro e w5 ⟨rfl, hF5⟩
      obtain ⟨k0, k1, k2, k3, k4, k5⟩ := unhide HX5
      have HX6 : Hid (Fr (fun _ => False) w w5 ∧ Bx w5 B #[.slice none 0 0, .slice none 0 0, .slice none 0 0, .float .f64 0, .int .i64 0, .int .i64 0, .int .i64 0, .int .i64 0, .int .i64 0, .int .i64 0, .int .i64 0, .int .i64 0, .int .i64 0, .int .i64 0] 27 ∧ Bx w5 R1 #[.int .i64 0, .int .i64 0] 37 ∧ Bx w5 X1 #[.slice none 0 0, .slice none 0 0, .slice none 0 0, .float .f64 0, .int .i64 0, .int .i64 0, .int .i64 0, .int .i64 0, .int .i64 0, .int .i64 0, .int .i64 0, .int .i64 0, .int .i64 0, .int .i64 0] 27 ∧ Bx w5 X0 #[.slice a0 d.st.length c0, .slice a1 d.sp.length c1, .slice a2 d.bd.length c2, .float .f64 d.off, .int .i64 d.bus, .int .i64 d.busDaily, .int .i64 d.busWeekly, .int .i64 d.hopper, .int .i64 d.most, .int .i64 d.longest, .int .i64 d.change, .int .i64 d.passback, .int .i64 d.delay, .int .i64 d.threshold] 27) := hide ⟨k0.trans hF5 (fun _ _ t => t), k1.keep hF5, k2.keep hF5, k3.keep hF5, k4.keep hF5⟩
      clear k0 k1 k2 k3 k4 k5 hF5 y0 x0 x1 x2 x3 x4 x5 x6 x7 x8 x9 x10 x11 x12 x13
      have HBL : Hid (¬ B < w.heap.size ∧ ¬ R1 < w.heap.size) := hide (by have := unhide HD; omega)
      obtain ⟨d1, d2, d3, d4, d5⟩ := unhide HD
      have hBR : B ≠ R1 := by omega
      have hRB : R1 ≠ B := by omega
      have hBX : B ≠ X1 := by omega
      have hXB : X1 ≠ B := by omega
      have hBY : B ≠ X0 := by omega
      have hYB : X0 ≠ B := by omega
      clear d1 d2 d3 d4 d5
      have x0 : w5.cell? ⟨X1, 0, none⟩ = some (.slice none 0 0) := (unhide HX6).2.2.2.1.cell 0
      have x1 : w5.cell? ⟨X1, 1, none⟩ = some (.slice none 0 0) := (unhide HX6).2.2.2.1.cell 1
      have x2 : w5.cell? ⟨X1, 2, none⟩ = some (.slice none 0 0) := (unhide HX6).2.2.2.1.cell 2
      have x3 : w5.cell? ⟨X1, 3, none⟩ = some (.float .f64 0) := (unhide HX6).2.2.2.1.cell 3
      have x4 : w5.cell? ⟨X1, 4, none⟩ = some (.int .i64 0) := (unhide HX6).2.2.2.1.cell 4
      have x5 : w5.cell? ⟨X1, 5, none⟩ = some (.int .i64 0) := (unhide HX6).2.2.2.1.cell 5
      have x6 : w5.cell? ⟨X1, 6, none⟩ = some (.int .i64 0) := (unhide HX6).2.2.2.1.cell 6
      have x7 : w5.cell? ⟨X1, 7, none⟩ = some (.int .i64 0) := (unhide HX6).2.2.2.1.cell 7
      have x8 : w5.cell? ⟨X1, 8, none⟩ = some (.int .i64 0) := (unhide HX6).2.2.2.1.cell 8
      have x9 : w5.cell? ⟨X1, 9, none⟩ = some (.int .i64 0) := (unhide HX6).2.2.2.1.cell 9
      have x10 : w5.cell? ⟨X1, 10, none⟩ = some (.int .i64 0) := (unhide HX6).2.2.2.1.cell 10
      have x11 : w5.cell? ⟨X1, 11, none⟩ = some (.int .i64 0) := (unhide HX6).2.2.2.1.cell 11
      have x12 : w5.cell? ⟨X1, 12, none⟩ = some (.int .i64 0) := (unhide HX6).2.2.2.1.cell 12
      have x13 : w5.cell? ⟨X1, 13, none⟩ = some (.int .i64 0) := (unhide HX6).2.2.2.1.cell 13
      have r0 : w5.cell? ⟨B, 0, none⟩ = some (.slice none 0 0) := (unhide HX6).2.1.cell 0
      have s0 : w5.frozen? ⟨B, 0, none⟩ = false := (unhide HX6).2.1.frozen 0
      have r1 : w5.cell? ⟨B, 1, none⟩ = some (.slice none 0 0) := (unhide HX6).2.1.cell 1
      have s1 : w5.frozen? ⟨B, 1, none⟩ = false := (unhide HX6).2.1.frozen 1
      have r2 : w5.cell? ⟨B, 2, none⟩ = some (.slice none 0 0) := (unhide HX6).2.1.cell 2
      have s2 : w5.frozen? ⟨B, 2, none⟩ = false := (unhide HX6).2.1.frozen 2
      have r3 : w5.cell? ⟨B, 3, none⟩ = some (.float .f64 0) := (unhide HX6).2.1.cell 3
      have s3 : w5.frozen? ⟨B, 3, none⟩ = false := (unhide HX6).2.1.frozen 3
      have r4 : w5.cell? ⟨B, 4, none⟩ = some (.int .i64 0) := (unhide HX6).2.1.cell 4
      have s4 : w5.frozen? ⟨B, 4, none⟩ = false := (unhide HX6).2.1.frozen 4
      have r5 : w5.cell? ⟨B, 5, none⟩ = some (.int .i64 0) := (unhide HX6).2.1.cell 5
      have s5 : w5.frozen? ⟨B, 5, none⟩ = false := (unhide HX6).2.1.frozen 5
      have r6 : w5.cell? ⟨B, 6, none⟩ = some (.int .i64 0) := (unhide HX6).2.1.cell 6
      have s6 : w5.frozen? ⟨B, 6, none⟩ = false := (unhide HX6).2.1.frozen 6
      have r7 : w5.cell? ⟨B, 7, none⟩ = some (.int .i64 0) := (unhide HX6).2.1.cell 7
      have s7 : w5.frozen? ⟨B, 7, none⟩ = false := (unhide HX6).2.1.frozen 7
      have r8 : w5.cell? ⟨B, 8, none⟩ = some (.int .i64 0) := (unhide HX6).2.1.cell 8
      have s8 : w5.frozen? ⟨B, 8, none⟩ = false := (unhide HX6).2.1.frozen 8
      have r9 : w5.cell? ⟨B, 9, none⟩ = some (.int .i64 0) := (unhide HX6).2.1.cell 9
      have s9 : w5.frozen? ⟨B, 9, none⟩ = false := (unhide HX6).2.1.frozen 9
      have r10 : w5.cell? ⟨B, 10, none⟩ = some (.int .i64 0) := (unhide HX6).2.1.cell 10
      have s10 : w5.frozen? ⟨B, 10, none⟩ = false := (unhide HX6).2.1.frozen 10
      have r11 : w5.cell? ⟨B, 11, none⟩ = some (.int .i64 0) := (unhide HX6).2.1.cell 11
      have s11 : w5.frozen? ⟨B, 11, none⟩ = false := (unhide HX6).2.1.frozen 11
      have r12 : w5.cell? ⟨B, 12, none⟩ = some (.int .i64 0) := (unhide HX6).2.1.cell 12
      have s12 : w5.frozen? ⟨B, 12, none⟩ = false := (unhide HX6).2.1.frozen 12
      have r13 : w5.cell? ⟨B, 13, none⟩ = some (.int .i64 0) := (unhide HX6).2.1.cell 13
      have s13 : w5.frozen? ⟨B, 13, none⟩ = false := (unhide HX6).2.1.frozen 13
      have u0 : w5.cell? ⟨R1, 0, none⟩ = some (.int .i64 0) := (unhide HX6).2.2.1.cell 0
      have v0 : w5.frozen? ⟨R1, 0, none⟩ = false := (unhide HX6).2.2.1.frozen 0
      have u1 : w5.cell? ⟨R1, 1, none⟩ = some (.int .i64 0) := (unhide HX6).2.2.1.cell 1
      have v1 : w5.frozen? ⟨R1, 1, none⟩ = false := (unhide HX6).2.2.1.frozen 1
      go_wp2
      obtain ⟨k0, k1, k2, k3, k4⟩ := unhide HX6
      have e1 : Bx _ B #[.slice none 0 0, .slice none 0 0, .slice none 0 0, .float .f64 0, .int .i64 0, .int .i64 0, .int .i64 0, .int .i64 0, .int .i64 0, .int .i64 0, .int .i64 0, .int .i64 0, .int .i64 0, .int .i64 0] 27 := Bx.setCell k1 0 (.slice none 0 0)
      have e1 : Bx _ B #[.slice none 0 0, .slice none 0 0, .slice none 0 0, .float .f64 0, .int .i64 0, .int .i64 0, .int .i64 0, .int .i64 0, .int .i64 0, .int .i64 0, .int .i64 0, .int .i64 0, .int .i64 0, .int .i64 0] 27 := Bx.setCell e1 1 (.slice none 0 0)
      have e1 : Bx _ B #[.slice none 0 0, .slice none 0 0, .slice none 0 0, .float .f64 0, .int .i64 0, .int .i64 0, .int .i64 0, .int .i64 0, .int .i64 0, .int .i64 0, .int .i64 0, .int .i64 0, .int .i64 0, .int .i64 0] 27 := Bx.setCell e1 2 (.slice none 0 0)
      have e1 : Bx _ B #[.slice none 0 0, .slice none 0 0, .slice none 0 0, .float .f64 0, .int .i64 0, .int .i64 0, .int .i64 0, .int .i64 0, .int .i64 0, .int .i64 0, .int .i64 0, .int .i64 0, .int .i64 0, .int .i64 0] 27 := Bx.setCell e1 3 (.float .f64 0)
      have e1 : Bx _ B #[.slice none 0 0, .slice none 0 0, .slice none 0 0, .float .f64 0, .int .i64 0, .int .i64 0, .int .i64 0, .int .i64 0, .int .i64 0, .int .i64 0, .int .i64 0, .int .i64 0, .int .i64 0, .int .i64 0] 27 := Bx.setCell e1 4 (.int .i64 0)
      have e1 : Bx _ B #[.slice none 0 0, .slice none 0 0, .slice none 0 0, .float .f64 0, .int .i64 0, .int .i64 0, .int .i64 0, .int .i64 0, .int .i64 0, .int .i64 0, .int .i64 0, .int .i64 0, .int .i64 0, .int .i64 0] 27 := Bx.setCell e1 5 (.int .i64 0)
      have e1 : Bx _ B #[.slice none 0 0, .slice none 0 0, .slice none 0 0, .float .f64 0, .int .i64 0, .int .i64 0, .int .i64 0, .int .i64 0, .int .i64 0, .int .i64 0, .int .i64 0, .int .i64 0, .int .i64 0, .int .i64 0] 27 := Bx.setCell e1 6 (.int .i64 0)
      have e1 : Bx _ B #[.slice none 0 0, .slice none 0 0, .slice none 0 0, .float .f64 0, .int .i64 0, .int .i64 0, .int .i64 0, .int .i64 0, .int .i64 0, .int .i64 0, .int .i64 0, .int .i64 0, .int .i64 0, .int .i64 0] 27 := Bx.setCell e1 7 (.int .i64 0)
      have e1 : Bx _ B #[.slice none 0 0, .slice none 0 0, .slice none 0 0, .float .f64 0, .int .i64 0, .int .i64 0, .int .i64 0, .int .i64 0, .int .i64 0, .int .i64 0, .int .i64 0, .int .i64 0, .int .i64 0, .int .i64 0] 27 := Bx.setCell e1 8 (.int .i64 0)
      have e1 : Bx _ B #[.slice none 0 0, .slice none 0 0, .slice none 0 0, .float .f64 0, .int .i64 0, .int .i64 0, .int .i64 0, .int .i64 0, .int .i64 0, .int .i64 0, .int .i64 0, .int .i64 0, .int .i64 0, .int .i64 0] 27 := Bx.setCell e1 9 (.int .i64 0)
      have e1 : Bx _ B #[.slice none 0 0, .slice none 0 0, .slice none 0 0, .float .f64 0, .int .i64 0, .int .i64 0, .int .i64 0, .int .i64 0, .int .i64 0, .int .i64 0, .int .i64 0, .int .i64 0, .int .i64 0, .int .i64 0] 27 := Bx.setCell e1 10 (.int .i64 0)
      have e1 : Bx _ B #[.slice none 0 0, .slice none 0 0, .slice none 0 0, .float .f64 0, .int .i64 0, .int .i64 0, .int .i64 0, .int .i64 0, .int .i64 0, .int .i64 0, .int .i64 0, .int .i64 0, .int .i64 0, .int .i64 0] 27 := Bx.setCell e1 11 (.int .i64 0)
      have e1 : Bx _ B #[.slice none 0 0, .slice none 0 0, .slice none 0 0, .float .f64 0, .int .i64 0, .int .i64 0, .int .i64 0, .int .i64 0, .int .i64 0, .int .i64 0, .int .i64 0, .int .i64 0, .int .i64 0, .int .i64 0] 27 := Bx.setCell e1 12 (.int .i64 0)
      have e1 : Bx _ B #[.slice none 0 0, .slice none 0 0, .slice none 0 0, .float .f64 0, .int .i64 0, .int .i64 0, .int .i64 0, .int .i64 0, .int .i64 0, .int .i64 0, .int .i64 0, .int .i64 0, .int .i64 0, .int .i64 0] 27 := Bx.setCell e1 13 (.int .i64 0)
      have e1 : Bx _ B #[.slice none 0 0, .slice none 0 0, .slice none 0 0, .float .f64 0, .int .i64 0, .int .i64 0, .int .i64 0, .int .i64 0, .int .i64 0, .int .i64 0, .int .i64 0, .int .i64 0, .int .i64 0, .int .i64 0] 27 := Bx.setOther e1 hBR 0 (.int .i64 ev)
      have e1 : Bx _ B #[.slice none 0 0, .slice none 0 0, .slice none 0 0, .float .f64 0, .int .i64 0, .int .i64 0, .int .i64 0, .int .i64 0, .int .i64 0, .int .i64 0, .int .i64 0, .int .i64 0, .int .i64 0, .int .i64 0] 27 := Bx.setOther e1 hBR 1 (.int .i64 (-1))
      have e2 := (Bx.setCell (Bx.setCell (Bx.setOther (Bx.setOther (Bx.setOther (Bx.setOther (Bx.setOther (Bx.setOther (Bx.setOther (Bx.setOther (Bx.setOther (Bx.setOther (Bx.setOther (Bx.setOther (Bx.setOther (Bx.setOther k2 hRB 0 (.slice none 0 0)) hRB 1 (.slice none 0 0)) hRB 2 (.slice none 0 0)) hRB 3 (.float .f64 0)) hRB 4 (.int .i64 0)) hRB 5 (.int .i64 0)) hRB 6 (.int .i64 0)) hRB 7 (.int .i64 0)) hRB 8 (.int .i64 0)) hRB 9 (.int .i64 0)) hRB 10 (.int .i64 0)) hRB 11 (.int .i64 0)) hRB 12 (.int .i64 0)) hRB 13 (.int .i64 0)) 0 (.int .i64 ev)) 1 (.int .i64 (-1)))
      have e3 : Fr (fun _ => False) w (((((((((((((((((w5.setCell ⟨B, 0, none⟩ (.slice none 0 0)).setCell ⟨B, 1, none⟩ (.slice none 0 0)).setCell ⟨B, 2, none⟩ (.slice none 0 0)).setCell ⟨B, 3, none⟩ (.float .f64 0)).setCell ⟨B, 4, none⟩ (.int .i64 0)).setCell ⟨B, 5, none⟩ (.int .i64 0)).setCell ⟨B, 6, none⟩ (.int .i64 0)).setCell ⟨B, 7, none⟩ (.int .i64 0)).setCell ⟨B, 8, none⟩ (.int .i64 0)).setCell ⟨B, 9, none⟩ (.int .i64 0)).setCell ⟨B, 10, none⟩ (.int .i64 0)).setCell ⟨B, 11, none⟩ (.int .i64 0)).setCell ⟨B, 12, none⟩ (.int .i64 0)).setCell ⟨B, 13, none⟩ (.int .i64 0)).setCell ⟨R1, 0, none⟩ (.int .i64 ev)).setCell ⟨R1, 1, none⟩ (.int .i64 (-1)))) := (Fr.setCell (Fr.setCell (Fr.setCell (Fr.setCell (Fr.setCell (Fr.setCell (Fr.setCell (Fr.setCell (Fr.setCell (Fr.setCell (Fr.setCell (Fr.setCell (Fr.setCell (Fr.setCell (Fr.setCell (Fr.setCell k0 (p := ⟨B, 0, none⟩) (fun h => absurd h (unhide HBL).1) (.slice none 0 0)) (p := ⟨B, 1, none⟩) (fun h => absurd h (unhide HBL).1) (.slice none 0 0)) (p := ⟨B, 2, none⟩) (fun h => absurd h (unhide HBL).1) (.slice none 0 0)) (p := ⟨B, 3, none⟩) (fun h => absurd h (unhide HBL).1) (.float .f64 0)) (p := ⟨B, 4, none⟩) (fun h => absurd h (unhide HBL).1) (.int .i64 0)) (p := ⟨B, 5, none⟩) (fun h => absurd h (unhide HBL).1) (.int .i64 0)) (p := ⟨B, 6, none⟩) (fun h => absurd h (unhide HBL).1) (.int .i64 0)) (p := ⟨B, 7, none⟩) (fun h => absurd h (unhide HBL).1) (.int .i64 0)) (p := ⟨B, 8, none⟩) (fun h => absurd h (unhide HBL).1) (.int .i64 0)) (p := ⟨B, 9, none⟩) (fun h => absurd h (unhide HBL).1) (.int .i64 0)) (p := ⟨B, 10, none⟩) (fun h => absurd h (unhide HBL).1) (.int .i64 0)) (p := ⟨B, 11, none⟩) (fun h => absurd h (unhide HBL).1) (.int .i64 0)) (p := ⟨B, 12, none⟩) (fun h => absurd h (unhide HBL).1) (.int .i64 0)) (p := ⟨B, 13, none⟩) (fun h => absurd h (unhide HBL).1) (.int .i64 0)) (p := ⟨R1, 0, none⟩) (fun h => absurd h (unhide HBL).2) (.int .i64 ev)) (p := ⟨R1, 1, none⟩) (fun h => absurd h (unhide HBL).2) (.int .i64 (-1)))
      exact bodyPost_ret (v := .tuple #[.agg #[.slice none 0 0, .slice none 0 0, .slice none 0 0, .float .f64 0, .int .i64 0, .int .i64 0, .int .i64 0, .int .i64 0, .int .i64 0, .int .i64 0, .int .i64 0, .int .i64 0, .int .i64 0, .int .i64 0], .agg #[.int .i64 ev, .int .i64 (-1)]]) (results_bx2 rfl _ rfl rfl e1 e2 Tryz.underlying27 rfl (tar_size _ rfl) Tryz.underlying37 rfl (fault_size _ _)) rfl ⟨adZ, 0, 0, 0, by first | rfl | (rw [unhide HRE]; rfl), (by first | exact TNew.zero _ _ | (rw [unhide HRE]; exact TNew.zero _ _)), e3⟩
  · have hcb : (c != 0) = true := by simp [hc]
    have HRE : Hid (R = (tarZ, c, f)) := hide (by rw [unhide HRR, if_pos hc])
    clear hc HRR
    rw [unhide HRE]
    go_wp2_with fail
    generalize w4.alloc (.cells #[.int .i64 c, .int .i64 f] 37) = w5 at *
    generalize w4.heap.size = Fb at *
    have HBL : Hid (¬ B < w.heap.size ∧ ¬ R1 < w.heap.size) := hide (by have := unhide HD; omega)
    have x0 : w5.cell? ⟨X1, 0, none⟩ = some (.slice none 0 0) := (unhide HX5).2.2.2.1.cell 0
    have x1 : w5.cell? ⟨X1, 1, none⟩ = some (.slice none 0 0) := (unhide HX5).2.2.2.1.cell 1
    have x2 : w5.cell? ⟨X1, 2, none⟩ = some (.slice none 0 0) := (unhide HX5).2.2.2.1.cell 2
    have x3 : w5.cell? ⟨X1, 3, none⟩ = some (.float .f64 0) := (unhide HX5).2.2.2.1.cell 3
    have x4 : w5.cell? ⟨X1, 4, none⟩ = some (.int .i64 0) := (unhide HX5).2.2.2.1.cell 4
    have x5 : w5.cell? ⟨X1, 5, none⟩ = some (.int .i64 0) := (unhide HX5).2.2.2.1.cell 5
    have x6 : w5.cell? ⟨X1, 6, none⟩ = some (.int .i64 0) := (unhide HX5).2.2.2.1.cell 6
    have x7 : w5.cell? ⟨X1, 7, none⟩ = some (.int .i64 0) := (unhide HX5).2.2.2.1.cell 7
    have x8 : w5.cell? ⟨X1, 8, none⟩ = some (.int .i64 0) := (unhide HX5).2.2.2.1.cell 8
    have x9 : w5.cell? ⟨X1, 9, none⟩ = some (.int .i64 0) := (unhide HX5).2.2.2.1.cell 9
    have x10 : w5.cell? ⟨X1, 10, none⟩ = some (.int .i64 0) := (unhide HX5).2.2.2.1.cell 10
    have x11 : w5.cell? ⟨X1, 11, none⟩ = some (.int .i64 0) := (unhide HX5).2.2.2.1.cell 11
    have x12 : w5.cell? ⟨X1, 12, none⟩ = some (.int .i64 0) := (unhide HX5).2.2.2.1.cell 12
    have x13 : w5.cell? ⟨X1, 13, none⟩ = some (.int .i64 0) := (unhide HX5).2.2.2.1.cell 13
    have y0 : w5.cell? ⟨Fb, 0, none⟩ = some (.int .i64 c) := (unhide HX5).2.2.2.2.2.cell 0
    have y1 : w5.cell? ⟨Fb, 1, none⟩ = some (.int .i64 f) := (unhide HX5).2.2.2.2.2.cell 1
    have r0 : w5.cell? ⟨B, 0, none⟩ = some (.slice none 0 0) := (unhide HX5).2.1.cell 0
    have s0 : w5.frozen? ⟨B, 0, none⟩ = false := (unhide HX5).2.1.frozen 0
    have r1 : w5.cell? ⟨B, 1, none⟩ = some (.slice none 0 0) := (unhide HX5).2.1.cell 1
    have s1 : w5.frozen? ⟨B, 1, none⟩ = false := (unhide HX5).2.1.frozen 1
    have r2 : w5.cell? ⟨B, 2, none⟩ = some (.slice none 0 0) := (unhide HX5).2.1.cell 2
    have s2 : w5.frozen? ⟨B, 2, none⟩ = false := (unhide HX5).2.1.frozen 2
    have r3 : w5.cell? ⟨B, 3, none⟩ = some (.float .f64 0) := (unhide HX5).2.1.cell 3
    have s3 : w5.frozen? ⟨B, 3, none⟩ = false := (unhide HX5).2.1.frozen 3
    have r4 : w5.cell? ⟨B, 4, none⟩ = some (.int .i64 0) := (unhide HX5).2.1.cell 4
    have s4 : w5.frozen? ⟨B, 4, none⟩ = false := (unhide HX5).2.1.frozen 4
    have r5 : w5.cell? ⟨B, 5, none⟩ = some (.int .i64 0) := (unhide HX5).2.1.cell 5
    have s5 : w5.frozen? ⟨B, 5, none⟩ = false := (unhide HX5).2.1.frozen 5
    have r6 : w5.cell? ⟨B, 6, none⟩ = some (.int .i64 0) := (unhide HX5).2.1.cell 6
    have s6 : w5.frozen? ⟨B, 6, none⟩ = false := (unhide HX5).2.1.frozen 6
    have r7 : w5.cell? ⟨B, 7, none⟩ = some (.int .i64 0) := (unhide HX5).2.1.cell 7
    have s7 : w5.frozen? ⟨B, 7, none⟩ = false := (unhide HX5).2.1.frozen 7
    have r8 : w5.cell? ⟨B, 8, none⟩ = some (.int .i64 0) := (unhide HX5).2.1.cell 8
    have s8 : w5.frozen? ⟨B, 8, none⟩ = false := (unhide HX5).2.1.frozen 8
    have r9 : w5.cell? ⟨B, 9, none⟩ = some (.int .i64 0) := (unhide HX5).2.1.cell 9
    have s9 : w5.frozen? ⟨B, 9, none⟩ = false := (unhide HX5).2.1.frozen 9
    have r10 : w5.cell? ⟨B, 10, none⟩ = some (.int .i64 0) := (unhide HX5).2.1.cell 10
    have s10 : w5.frozen? ⟨B, 10, none⟩ = false := (unhide HX5).2.1.frozen 10
    have r11 : w5.cell? ⟨B, 11, none⟩ = some (.int .i64 0) := (unhide HX5).2.1.cell 11
    have s11 : w5.frozen? ⟨B, 11, none⟩ = false := (unhide HX5).2.1.frozen 11
    have r12 : w5.cell? ⟨B, 12, none⟩ = some (.int .i64 0) := (unhide HX5).2.1.cell 12
    have s12 : w5.frozen? ⟨B, 12, none⟩ = false := (unhide HX5).2.1.frozen 12
    have r13 : w5.cell? ⟨B, 13, none⟩ = some (.int .i64 0) := (unhide HX5).2.1.cell 13
    have s13 : w5.frozen? ⟨B, 13, none⟩ = false := (unhide HX5).2.1.frozen 13
    have u0 : w5.cell? ⟨R1, 0, none⟩ = some (.int .i64 0) := (unhide HX5).2.2.1.cell 0
    have v0 : w5.frozen? ⟨R1, 0, none⟩ = false := (unhide HX5).2.2.1.frozen 0
    have u1 : w5.cell? ⟨R1, 1, none⟩ = some (.int .i64 0) := (unhide HX5).2.2.1.cell 1
    have v1 : w5.frozen? ⟨R1, 1, none⟩ = false := (unhide HX5).2.2.1.frozen 1
    obtain ⟨d1, d2, d3, d4, d5⟩ := unhide HD
    have HFL : Hid (X1 < Fb) := unhide HFB
    have hBR : B ≠ R1 := by omega
    have hRB : R1 ≠ B := by omega
    have hBX : B ≠ X1 := by omega
    have hXB : X1 ≠ B := by omega
    have hBF : B ≠ Fb := by have := unhide HFL; omega
    have hFB : Fb ≠ B := hBF.symm
    have hRX : R1 ≠ X1 := by omega
    have hXR : X1 ≠ R1 := by omega
    have hRF : R1 ≠ Fb := by have := unhide HFL; omega
    have hFR : Fb ≠ R1 := hRF.symm
    clear d1 d2 d3 d4 d5
    go_region_held3 (fun w' => w'.cell? ⟨X1, 0, none⟩ = some (.slice none 0 0) ∧ w'.cell? ⟨X1, 1, none⟩ = some (.slice none 0 0) ∧ w'.cell? ⟨X1, 2, none⟩ = some (.slice none 0 0) ∧ w'.cell? ⟨X1, 3, none⟩ = some (.float .f64 0) ∧ w'.cell? ⟨X1, 4, none⟩ = some (.int .i64 0) ∧ w'.cell? ⟨X1, 5, none⟩ = some (.int .i64 0) ∧ w'.cell? ⟨X1, 6, none⟩ = some (.int .i64 0) ∧ w'.cell? ⟨X1, 7, none⟩ = some (.int .i64 0) ∧ w'.cell? ⟨X1, 8, none⟩ = some (.int .i64 0) ∧ w'.cell? ⟨X1, 9, none⟩ = some (.int .i64 0) ∧ w'.cell? ⟨X1, 10, none⟩ = some (.int .i64 0) ∧ w'.cell? ⟨X1, 11, none⟩ = some (.int .i64 0) ∧ w'.cell? ⟨X1, 12, none⟩ = some (.int .i64 0) ∧ w'.cell? ⟨X1, 13, none⟩ = some (.int .i64 0) ∧ w'.cell? ⟨Fb, 0, none⟩ = some (.int .i64 c) ∧ w'.cell? ⟨Fb, 1, none⟩ = some (.int .i64 f)) (go_keep) (fail)
    go_wp2
    obtain ⟨k0, k1, k2, k3, k4, k5⟩ := unhide HX5
    have e1 : Bx _ B #[.slice none 0 0, .slice none 0 0, .slice none 0 0, .float .f64 0, .int .i64 0, .int .i64 0, .int .i64 0, .int .i64 0, .int .i64 0, .int .i64 0, .int .i64 0, .int .i64 0, .int .i64 0, .int .i64 0] 27 := Bx.setCell k1 0 (.slice none 0 0)
    have e1 : Bx _ B #[.slice none 0 0, .slice none 0 0, .slice none 0 0, .float .f64 0, .int .i64 0, .int .i64 0, .int .i64 0, .int .i64 0, .int .i64 0, .int .i64 0, .int .i64 0, .int .i64 0, .int .i64 0, .int .i64 0] 27 := Bx.setCell e1 1 (.slice none 0 0)
    have e1 : Bx _ B #[.slice none 0 0, .slice none 0 0, .slice none 0 0, .float .f64 0, .int .i64 0, .int .i64 0, .int .i64 0, .int .i64 0, .int .i64 0, .int .i64 0, .int .i64 0, .int .i64 0, .int .i64 0, .int .i64 0] 27 := Bx.setCell e1 2 (.slice none 0 0)
    have e1 : Bx _ B #[.slice none 0 0, .slice none 0 0, .slice none 0 0, .float .f64 0, .int .i64 0, .int .i64 0, .int .i64 0, .int .i64 0, .int .i64 0, .int .i64 0, .int .i64 0, .int .i64 0, .int .i64 0, .int .i64 0] 27 := Bx.setCell e1 3 (.float .f64 0)
    have e1 : Bx _ B #[.slice none 0 0, .slice none 0 0, .slice none 0 0, .float .f64 0, .int .i64 0, .int .i64 0, .int .i64 0, .int .i64 0, .int .i64 0, .int .i64 0, .int .i64 0, .int .i64 0, .int .i64 0, .int .i64 0] 27 := Bx.setCell e1 4 (.int .i64 0)
    have e1 : Bx _ B #[.slice none 0 0, .slice none 0 0, .slice none 0 0, .float .f64 0, .int .i64 0, .int .i64 0, .int .i64 0, .int .i64 0, .int .i64 0, .int .i64 0, .int .i64 0, .int .i64 0, .int .i64 0, .int .i64 0] 27 := Bx.setCell e1 5 (.int .i64 0)
    have e1 : Bx _ B #[.slice none 0 0, .slice none 0 0, .slice none 0 0, .float .f64 0, .int .i64 0, .int .i64 0, .int .i64 0, .int .i64 0, .int .i64 0, .int .i64 0, .int .i64 0, .int .i64 0, .int .i64 0, .int .i64 0] 27 := Bx.setCell e1 6 (.int .i64 0)
    have e1 : Bx _ B #[.slice none 0 0, .slice none 0 0, .slice none 0 0, .float .f64 0, .int .i64 0, .int .i64 0, .int .i64 0, .int .i64 0, .int .i64 0, .int .i64 0, .int .i64 0, .int .i64 0, .int .i64 0, .int .i64 0] 27 := Bx.setCell e1 7 (.int .i64 0)
    have e1 : Bx _ B #[.slice none 0 0, .slice none 0 0, .slice none 0 0, .float .f64 0, .int .i64 0, .int .i64 0, .int .i64 0, .int .i64 0, .int .i64 0, .int .i64 0, .int .i64 0, .int .i64 0, .int .i64 0, .int .i64 0] 27 := Bx.setCell e1 8 (.int .i64 0)
    have e1 : Bx _ B #[.slice none 0 0, .slice none 0 0, .slice none 0 0, .float .f64 0, .int .i64 0, .int .i64 0, .int .i64 0, .int .i64 0, .int .i64 0, .int .i64 0, .int .i64 0, .int .i64 0, .int .i64 0, .int .i64 0] 27 := Bx.setCell e1 9 (.int .i64 0)
    have e1 : Bx _ B #[.slice none 0 0, .slice none 0 0, .slice none 0 0, .float .f64 0, .int .i64 0, .int .i64 0, .int .i64 0, .int .i64 0, .int .i64 0, .int .i64 0, .int .i64 0, .int .i64 0, .int .i64 0, .int .i64 0] 27 := Bx.setCell e1 10 (.int .i64 0)
    have e1 : Bx _ B #[.slice none 0 0, .slice none 0 0, .slice none 0 0, .float .f64 0, .int .i64 0, .int .i64 0, .int .i64 0, .int .i64 0, .int .i64 0, .int .i64 0, .int .i64 0, .int .i64 0, .int .i64 0, .int .i64 0] 27 := Bx.setCell e1 11 (.int .i64 0)
    have e1 : Bx _ B #[.slice none 0 0, .slice none 0 0, .slice none 0 0, .float .f64 0, .int .i64 0, .int .i64 0, .int .i64 0, .int .i64 0, .int .i64 0, .int .i64 0, .int .i64 0, .int .i64 0, .int .i64 0, .int .i64 0] 27 := Bx.setCell e1 12 (.int .i64 0)
    have e1 : Bx _ B #[.slice none 0 0, .slice none 0 0, .slice none 0 0, .float .f64 0, .int .i64 0, .int .i64 0, .int .i64 0, .int .i64 0, .int .i64 0, .int .i64 0, .int .i64 0, .int .i64 0, .int .i64 0, .int .i64 0] 27 := Bx.setCell e1 13 (.int .i64 0)
    have e1 : Bx _ B #[.slice none 0 0, .slice none 0 0, .slice none 0 0, .float .f64 0, .int .i64 0, .int .i64 0, .int .i64 0, .int .i64 0, .int .i64 0, .int .i64 0, .int .i64 0, .int .i64 0, .int .i64 0, .int .i64 0] 27 := Bx.setOther e1 hBR 0 (.int .i64 c)
    have e1 : Bx _ B #[.slice none 0 0, .slice none 0 0, .slice none 0 0, .float .f64 0, .int .i64 0, .int .i64 0, .int .i64 0, .int .i64 0, .int .i64 0, .int .i64 0, .int .i64 0, .int .i64 0, .int .i64 0, .int .i64 0] 27 := Bx.setOther e1 hBR 1 (.int .i64 f)
    have e2 := (Bx.setCell (Bx.setCell (Bx.setOther (Bx.setOther (Bx.setOther (Bx.setOther (Bx.setOther (Bx.setOther (Bx.setOther (Bx.setOther (Bx.setOther (Bx.setOther (Bx.setOther (Bx.setOther (Bx.setOther (Bx.setOther k2 hRB 0 (.slice none 0 0)) hRB 1 (.slice none 0 0)) hRB 2 (.slice none 0 0)) hRB 3 (.float .f64 0)) hRB 4 (.int .i64 0)) hRB 5 (.int .i64 0)) hRB 6 (.int .i64 0)) hRB 7 (.int .i64 0)) hRB 8 (.int .i64 0)) hRB 9 (.int .i64 0)) hRB 10 (.int .i64 0)) hRB 11 (.int .i64 0)) hRB 12 (.int .i64 0)) hRB 13 (.int .i64 0)) 0 (.int .i64 c)) 1 (.int .i64 f))
    have e3 : Fr (fun _ => False) w (((((((((((((((((((w5.setCell ⟨B, 0, none⟩ (.slice none 0 0)).setCell ⟨B, 1, none⟩ (.slice none 0 0)).setCell ⟨B, 2, none⟩ (.slice none 0 0)).setCell ⟨B, 3, none⟩ (.float .f64 0)).setCell ⟨B, 4, none⟩ (.int .i64 0)).setCell ⟨B, 5, none⟩ (.int .i64 0)).setCell ⟨B, 6, none⟩ (.int .i64 0)).setCell ⟨B, 7, none⟩ (.int .i64 0)).setCell ⟨B, 8, none⟩ (.int .i64 0)).setCell ⟨B, 9, none⟩ (.int .i64 0)).setCell ⟨B, 10, none⟩ (.int .i64 0)).setCell ⟨B, 11, none⟩ (.int .i64 0)).setCell ⟨B, 12, none⟩ (.int .i64 0)).setCell ⟨B, 13, none⟩ (.int .i64 0)).setCell ⟨R1, 0, none⟩ (.int .i64 c)).setCell ⟨R1, 1, none⟩ (.int .i64 f))).drew)) := Fr.drew (Fr.setCell (Fr.setCell (Fr.setCell (Fr.setCell (Fr.setCell (Fr.setCell (Fr.setCell (Fr.setCell (Fr.setCell (Fr.setCell (Fr.setCell (Fr.setCell (Fr.setCell (Fr.setCell (Fr.setCell (Fr.setCell k0 (p := ⟨B, 0, none⟩) (fun h => absurd h (unhide HBL).1) (.slice none 0 0)) (p := ⟨B, 1, none⟩) (fun h => absurd h (unhide HBL).1) (.slice none 0 0)) (p := ⟨B, 2, none⟩) (fun h => absurd h (unhide HBL).1) (.slice none 0 0)) (p := ⟨B, 3, none⟩) (fun h => absurd h (unhide HBL).1) (.float .f64 0)) (p := ⟨B, 4, none⟩) (fun h => absurd h (unhide HBL).1) (.int .i64 0)) (p := ⟨B, 5, none⟩) (fun h => absurd h (unhide HBL).1) (.int .i64 0)) (p := ⟨B, 6, none⟩) (fun h => absurd h (unhide HBL).1) (.int .i64 0)) (p := ⟨B, 7, none⟩) (fun h => absurd h (unhide HBL).1) (.int .i64 0)) (p := ⟨B, 8, none⟩) (fun h => absurd h (unhide HBL).1) (.int .i64 0)) (p := ⟨B, 9, none⟩) (fun h => absurd h (unhide HBL).1) (.int .i64 0)) (p := ⟨B, 10, none⟩) (fun h => absurd h (unhide HBL).1) (.int .i64 0)) (p := ⟨B, 11, none⟩) (fun h => absurd h (unhide HBL).1) (.int .i64 0)) (p := ⟨B, 12, none⟩) (fun h => absurd h (unhide HBL).1) (.int .i64 0)) (p := ⟨B, 13, none⟩) (fun h => absurd h (unhide HBL).1) (.int .i64 0)) (p := ⟨R1, 0, none⟩) (fun h => absurd h (unhide HBL).2) (.int .i64 c)) (p := ⟨R1, 1, none⟩) (fun h => absurd h (unhide HBL).2) (.int .i64 f))
    rw [unhide HRE]
    exact bodyPost_ret (v := .tuple #[.agg #[.slice none 0 0, .slice none 0 0, .slice none 0 0, .float .f64 0, .int .i64 0, .int .i64 0, .int .i64 0, .int .i64 0, .int .i64 0, .int .i64 0, .int .i64 0, .int .i64 0, .int .i64 0, .int .i64 0], .agg #[.int .i64 c, .int .i64 f]]) (results_bx2 rfl _ rfl rfl e1.drew e2.drew Tryz.underlying27 rfl (tar_size _ rfl) Tryz.underlying37 rfl (fault_size _ _)) rfl ⟨adZ, 0, 0, 0, by first | rfl | (rw [unhide HRE]; rfl), (by first | exact TNew.zero _ _ | (rw [unhide HRE]; exact TNew.zero _ _)), e3⟩

set_option maxHeartbeats 1000000 in
theorem readTariff_any (w : World) (ao : Option Addr) (cap : Nat) (bs : List UInt8) (hB : BIn w ao cap bs) : Calls Tryz.prog 10 #[.slice ao bs.length cap] w (ReadTariff w (tarRd bs)) := by
  have R := hide (fun w' (h : Fr (fun _ => False) w w') => takenTariff_any w' ao cap bs (hB.keep h))
  obtain ⟨t, Ht⟩ : ∃ t, Hid (tarRd bs = t) := ⟨_, rfl⟩
  rw [unhide Ht] at R ⊢
  unfold ReadTariff at *
  obtain ⟨d, c, f⟩ := t
  simp only at R ⊢
  unfold tv tc at *
  clear hB Ht
  go_enter Tryz.func10, Tryz.ntmps10
  go_wp2_with fail
  have HX : Hid (Fr (fun _ => False) w ((w.alloc (.cells #[.slice none 0 0, .slice none 0 0, .slice none 0 0, .float .f64 0, .int .i64 0, .int .i64 0, .int .i64 0, .int .i64 0, .int .i64 0, .int .i64 0, .int .i64 0, .int .i64 0, .int .i64 0, .int .i64 0] 27)).alloc (.cells #[.int .i64 0, .int .i64 0] 37)) ∧ Bx ((w.alloc (.cells #[.slice none 0 0, .slice none 0 0, .slice none 0 0, .float .f64 0, .int .i64 0, .int .i64 0, .int .i64 0, .int .i64 0, .int .i64 0, .int .i64 0, .int .i64 0, .int .i64 0, .int .i64 0, .int .i64 0] 27)).alloc (.cells #[.int .i64 0, .int .i64 0] 37)) w.heap.size #[.slice none 0 0, .slice none 0 0, .slice none 0 0, .float .f64 0, .int .i64 0, .int .i64 0, .int .i64 0, .int .i64 0, .int .i64 0, .int .i64 0, .int .i64 0, .int .i64 0, .int .i64 0, .int .i64 0] 27 ∧ Bx ((w.alloc (.cells #[.slice none 0 0, .slice none 0 0, .slice none 0 0, .float .f64 0, .int .i64 0, .int .i64 0, .int .i64 0, .int .i64 0, .int .i64 0, .int .i64 0, .int .i64 0, .int .i64 0, .int .i64 0, .int .i64 0] 27)).alloc (.cells #[.int .i64 0, .int .i64 0] 37)) (w.heap.size + 1) #[.int .i64 0, .int .i64 0] 37) := hide (by
    have h2 := Bx.new (w.alloc (.cells #[.slice none 0 0, .slice none 0 0, .slice none 0 0, .float .f64 0, .int .i64 0, .int .i64 0, .int .i64 0, .int .i64 0, .int .i64 0, .int .i64 0, .int .i64 0, .int .i64 0, .int .i64 0, .int .i64 0] 27)) #[.int .i64 0, .int .i64 0] 37
    rw [heap_alloc] at h2
    exact ⟨((Fr.refl _ w).alloc _).alloc _, (Bx.new _ _ _).alloc _, h2⟩)
  refine (unhide R _ (unhide HX).1).mono ?_
  rintro e w5 ⟨⟨a0, c0, a1, c1, a2, c2⟩, g0, g1, g2, rfl, hN, hF⟩
  have HK5 := hide hN
  have HS : Hid (w.heap.size < ((w.alloc (.cells #[.slice none 0 0, .slice none 0 0, .slice none 0 0, .float .f64 0, .int .i64 0, .int .i64 0, .int .i64 0, .int .i64 0, .int .i64 0, .int .i64 0, .int .i64 0, .int .i64 0, .int .i64 0, .int .i64 0] 27)).alloc (.cells #[.int .i64 0, .int .i64 0] 37)).heap.size ∧ w.heap.size + 1 < ((w.alloc (.cells #[.slice none 0 0, .slice none 0 0, .slice none 0 0, .float .f64 0, .int .i64 0, .int .i64 0, .int .i64 0, .int .i64 0, .int .i64 0, .int .i64 0, .int .i64 0, .int .i64 0, .int .i64 0, .int .i64 0] 27)).alloc (.cells #[.int .i64 0, .int .i64 0] 37)).heap.size) := hide (by rw [heap_alloc, heap_alloc]; omega)
  clear hN
  obtain ⟨B, hBe⟩ : ∃ B, w.heap.size = B := ⟨_, rfl⟩
  obtain ⟨R1, hR1⟩ : ∃ x, B + 1 = x := ⟨_, rfl⟩
  have hBR : B ≠ R1 := by omega
  have hRB : R1 ≠ B := by omega
  have HX5 : Hid (Fr (fun _ => False) w w5 ∧ Bx w5 B #[.slice none 0 0, .slice none 0 0, .slice none 0 0, .float .f64 0, .int .i64 0, .int .i64 0, .int .i64 0, .int .i64 0, .int .i64 0, .int .i64 0, .int .i64 0, .int .i64 0, .int .i64 0, .int .i64 0] 27 ∧ Bx w5 R1 #[.int .i64 0, .int .i64 0] 37) := hide (by
    rw [hBe, hR1] at HX
    exact ⟨(unhide HX).1.trans hF (fun _ _ t => t), (unhide HX).2.1.keep hF, (unhide HX).2.2.keep hF⟩)
  have HBL : Hid (¬ B < w.heap.size ∧ ¬ R1 < w.heap.size) := hide (by omega)
  rw [hBe, hR1] at HS ⊢
  generalize ((w.alloc (.cells #[.slice none 0 0, .slice none 0 0, .slice none 0 0, .float .f64 0, .int .i64 0, .int .i64 0, .int .i64 0, .int .i64 0, .int .i64 0, .int .i64 0, .int .i64 0, .int .i64 0, .int .i64 0, .int .i64 0] 27)).alloc (.cells #[.int .i64 0, .int .i64 0] 37)) = w0 at *
  have HS0 : Hid (w.heap.size ≤ w0.heap.size) := hide (by have := unhide HS; omega)
  clear hF HX hBe hR1 R
  have r0 : w5.cell? ⟨B, 0, none⟩ = some (.slice none 0 0) := (unhide HX5).2.1.cell 0
  have s0 : w5.frozen? ⟨B, 0, none⟩ = false := (unhide HX5).2.1.frozen 0
  have r1 : w5.cell? ⟨B, 1, none⟩ = some (.slice none 0 0) := (unhide HX5).2.1.cell 1
  have s1 : w5.frozen? ⟨B, 1, none⟩ = false := (unhide HX5).2.1.frozen 1
  have r2 : w5.cell? ⟨B, 2, none⟩ = some (.slice none 0 0) := (unhide HX5).2.1.cell 2
  have s2 : w5.frozen? ⟨B, 2, none⟩ = false := (unhide HX5).2.1.frozen 2
  have r3 : w5.cell? ⟨B, 3, none⟩ = some (.float .f64 0) := (unhide HX5).2.1.cell 3
  have s3 : w5.frozen? ⟨B, 3, none⟩ = false := (unhide HX5).2.1.frozen 3
  have r4 : w5.cell? ⟨B, 4, none⟩ = some (.int .i64 0) := (unhide HX5).2.1.cell 4
  have s4 : w5.frozen? ⟨B, 4, none⟩ = false := (unhide HX5).2.1.frozen 4
  have r5 : w5.cell? ⟨B, 5, none⟩ = some (.int .i64 0) := (unhide HX5).2.1.cell 5
  have s5 : w5.frozen? ⟨B, 5, none⟩ = false := (unhide HX5).2.1.frozen 5
  have r6 : w5.cell? ⟨B, 6, none⟩ = some (.int .i64 0) := (unhide HX5).2.1.cell 6
  have s6 : w5.frozen? ⟨B, 6, none⟩ = false := (unhide HX5).2.1.frozen 6
  have r7 : w5.cell? ⟨B, 7, none⟩ = some (.int .i64 0) := (unhide HX5).2.1.cell 7
  have s7 : w5.frozen? ⟨B, 7, none⟩ = false := (unhide HX5).2.1.frozen 7
  have r8 : w5.cell? ⟨B, 8, none⟩ = some (.int .i64 0) := (unhide HX5).2.1.cell 8
  have s8 : w5.frozen? ⟨B, 8, none⟩ = false := (unhide HX5).2.1.frozen 8
  have r9 : w5.cell? ⟨B, 9, none⟩ = some (.int .i64 0) := (unhide HX5).2.1.cell 9
  have s9 : w5.frozen? ⟨B, 9, none⟩ = false := (unhide HX5).2.1.frozen 9
  have r10 : w5.cell? ⟨B, 10, none⟩ = some (.int .i64 0) := (unhide HX5).2.1.cell 10
  have s10 : w5.frozen? ⟨B, 10, none⟩ = false := (unhide HX5).2.1.frozen 10
  have r11 : w5.cell? ⟨B, 11, none⟩ = some (.int .i64 0) := (unhide HX5).2.1.cell 11
  have s11 : w5.frozen? ⟨B, 11, none⟩ = false := (unhide HX5).2.1.frozen 11
  have r12 : w5.cell? ⟨B, 12, none⟩ = some (.int .i64 0) := (unhide HX5).2.1.cell 12
  have s12 : w5.frozen? ⟨B, 12, none⟩ = false := (unhide HX5).2.1.frozen 12
  have r13 : w5.cell? ⟨B, 13, none⟩ = some (.int .i64 0) := (unhide HX5).2.1.cell 13
  have s13 : w5.frozen? ⟨B, 13, none⟩ = false := (unhide HX5).2.1.frozen 13
  have u0 : w5.cell? ⟨R1, 0, none⟩ = some (.int .i64 0) := (unhide HX5).2.2.cell 0
  have v0 : w5.frozen? ⟨R1, 0, none⟩ = false := (unhide HX5).2.2.frozen 0
  have u1 : w5.cell? ⟨R1, 1, none⟩ = some (.int .i64 0) := (unhide HX5).2.2.cell 1
  have v1 : w5.frozen? ⟨R1, 1, none⟩ = false := (unhide HX5).2.2.frozen 1
  go_wp2
  obtain ⟨k0, k1, k2⟩ := unhide HX5
  have e1 : Bx _ B #[.slice a0 d.st.length c0, .slice none 0 0, .slice none 0 0, .float .f64 0, .int .i64 0, .int .i64 0, .int .i64 0, .int .i64 0, .int .i64 0, .int .i64 0, .int .i64 0, .int .i64 0, .int .i64 0, .int .i64 0] 27 := Bx.setCell k1 0 (.slice a0 d.st.length c0)
  have e1 : Bx _ B #[.slice a0 d.st.length c0, .slice a1 d.sp.length c1, .slice none 0 0, .float .f64 0, .int .i64 0, .int .i64 0, .int .i64 0, .int .i64 0, .int .i64 0, .int .i64 0, .int .i64 0, .int .i64 0, .int .i64 0, .int .i64 0] 27 := Bx.setCell e1 1 (.slice a1 d.sp.length c1)
  have e1 : Bx _ B #[.slice a0 d.st.length c0, .slice a1 d.sp.length c1, .slice a2 d.bd.length c2, .float .f64 0, .int .i64 0, .int .i64 0, .int .i64 0, .int .i64 0, .int .i64 0, .int .i64 0, .int .i64 0, .int .i64 0, .int .i64 0, .int .i64 0] 27 := Bx.setCell e1 2 (.slice a2 d.bd.length c2)
  have e1 : Bx _ B #[.slice a0 d.st.length c0, .slice a1 d.sp.length c1, .slice a2 d.bd.length c2, .float .f64 d.off, .int .i64 0, .int .i64 0, .int .i64 0, .int .i64 0, .int .i64 0, .int .i64 0, .int .i64 0, .int .i64 0, .int .i64 0, .int .i64 0] 27 := Bx.setCell e1 3 (.float .f64 d.off)
  have e1 : Bx _ B #[.slice a0 d.st.length c0, .slice a1 d.sp.length c1, .slice a2 d.bd.length c2, .float .f64 d.off, .int .i64 d.bus, .int .i64 0, .int .i64 0, .int .i64 0, .int .i64 0, .int .i64 0, .int .i64 0, .int .i64 0, .int .i64 0, .int .i64 0] 27 := Bx.setCell e1 4 (.int .i64 d.bus)
  have e1 : Bx _ B #[.slice a0 d.st.length c0, .slice a1 d.sp.length c1, .slice a2 d.bd.length c2, .float .f64 d.off, .int .i64 d.bus, .int .i64 d.busDaily, .int .i64 0, .int .i64 0, .int .i64 0, .int .i64 0, .int .i64 0, .int .i64 0, .int .i64 0, .int .i64 0] 27 := Bx.setCell e1 5 (.int .i64 d.busDaily)
  have e1 : Bx _ B #[.slice a0 d.st.length c0, .slice a1 d.sp.length c1, .slice a2 d.bd.length c2, .float .f64 d.off, .int .i64 d.bus, .int .i64 d.busDaily, .int .i64 d.busWeekly, .int .i64 0, .int .i64 0, .int .i64 0, .int .i64 0, .int .i64 0, .int .i64 0, .int .i64 0] 27 := Bx.setCell e1 6 (.int .i64 d.busWeekly)
  have e1 : Bx _ B #[.slice a0 d.st.length c0, .slice a1 d.sp.length c1, .slice a2 d.bd.length c2, .float .f64 d.off, .int .i64 d.bus, .int .i64 d.busDaily, .int .i64 d.busWeekly, .int .i64 d.hopper, .int .i64 0, .int .i64 0, .int .i64 0, .int .i64 0, .int .i64 0, .int .i64 0] 27 := Bx.setCell e1 7 (.int .i64 d.hopper)
  have e1 : Bx _ B #[.slice a0 d.st.length c0, .slice a1 d.sp.length c1, .slice a2 d.bd.length c2, .float .f64 d.off, .int .i64 d.bus, .int .i64 d.busDaily, .int .i64 d.busWeekly, .int .i64 d.hopper, .int .i64 d.most, .int .i64 0, .int .i64 0, .int .i64 0, .int .i64 0, .int .i64 0] 27 := Bx.setCell e1 8 (.int .i64 d.most)
  have e1 : Bx _ B #[.slice a0 d.st.length c0, .slice a1 d.sp.length c1, .slice a2 d.bd.length c2, .float .f64 d.off, .int .i64 d.bus, .int .i64 d.busDaily, .int .i64 d.busWeekly, .int .i64 d.hopper, .int .i64 d.most, .int .i64 d.longest, .int .i64 0, .int .i64 0, .int .i64 0, .int .i64 0] 27 := Bx.setCell e1 9 (.int .i64 d.longest)
  have e1 : Bx _ B #[.slice a0 d.st.length c0, .slice a1 d.sp.length c1, .slice a2 d.bd.length c2, .float .f64 d.off, .int .i64 d.bus, .int .i64 d.busDaily, .int .i64 d.busWeekly, .int .i64 d.hopper, .int .i64 d.most, .int .i64 d.longest, .int .i64 d.change, .int .i64 0, .int .i64 0, .int .i64 0] 27 := Bx.setCell e1 10 (.int .i64 d.change)
  have e1 : Bx _ B #[.slice a0 d.st.length c0, .slice a1 d.sp.length c1, .slice a2 d.bd.length c2, .float .f64 d.off, .int .i64 d.bus, .int .i64 d.busDaily, .int .i64 d.busWeekly, .int .i64 d.hopper, .int .i64 d.most, .int .i64 d.longest, .int .i64 d.change, .int .i64 d.passback, .int .i64 0, .int .i64 0] 27 := Bx.setCell e1 11 (.int .i64 d.passback)
  have e1 : Bx _ B #[.slice a0 d.st.length c0, .slice a1 d.sp.length c1, .slice a2 d.bd.length c2, .float .f64 d.off, .int .i64 d.bus, .int .i64 d.busDaily, .int .i64 d.busWeekly, .int .i64 d.hopper, .int .i64 d.most, .int .i64 d.longest, .int .i64 d.change, .int .i64 d.passback, .int .i64 d.delay, .int .i64 0] 27 := Bx.setCell e1 12 (.int .i64 d.delay)
  have e1 : Bx _ B #[.slice a0 d.st.length c0, .slice a1 d.sp.length c1, .slice a2 d.bd.length c2, .float .f64 d.off, .int .i64 d.bus, .int .i64 d.busDaily, .int .i64 d.busWeekly, .int .i64 d.hopper, .int .i64 d.most, .int .i64 d.longest, .int .i64 d.change, .int .i64 d.passback, .int .i64 d.delay, .int .i64 d.threshold] 27 := Bx.setCell e1 13 (.int .i64 d.threshold)
  have e1 : Bx _ B #[.slice a0 d.st.length c0, .slice a1 d.sp.length c1, .slice a2 d.bd.length c2, .float .f64 d.off, .int .i64 d.bus, .int .i64 d.busDaily, .int .i64 d.busWeekly, .int .i64 d.hopper, .int .i64 d.most, .int .i64 d.longest, .int .i64 d.change, .int .i64 d.passback, .int .i64 d.delay, .int .i64 d.threshold] 27 := Bx.setOther e1 hBR 0 (.int .i64 c)
  have e1 : Bx _ B #[.slice a0 d.st.length c0, .slice a1 d.sp.length c1, .slice a2 d.bd.length c2, .float .f64 d.off, .int .i64 d.bus, .int .i64 d.busDaily, .int .i64 d.busWeekly, .int .i64 d.hopper, .int .i64 d.most, .int .i64 d.longest, .int .i64 d.change, .int .i64 d.passback, .int .i64 d.delay, .int .i64 d.threshold] 27 := Bx.setOther e1 hBR 1 (.int .i64 f)
  have e2 := (Bx.setCell (Bx.setCell (Bx.setOther (Bx.setOther (Bx.setOther (Bx.setOther (Bx.setOther (Bx.setOther (Bx.setOther (Bx.setOther (Bx.setOther (Bx.setOther (Bx.setOther (Bx.setOther (Bx.setOther (Bx.setOther k2 hRB 0 (.slice a0 d.st.length c0)) hRB 1 (.slice a1 d.sp.length c1)) hRB 2 (.slice a2 d.bd.length c2)) hRB 3 (.float .f64 d.off)) hRB 4 (.int .i64 d.bus)) hRB 5 (.int .i64 d.busDaily)) hRB 6 (.int .i64 d.busWeekly)) hRB 7 (.int .i64 d.hopper)) hRB 8 (.int .i64 d.most)) hRB 9 (.int .i64 d.longest)) hRB 10 (.int .i64 d.change)) hRB 11 (.int .i64 d.passback)) hRB 12 (.int .i64 d.delay)) hRB 13 (.int .i64 d.threshold)) 0 (.int .i64 c)) 1 (.int .i64 f))
  have e3 : Fr (fun _ => False) w (((((((((((((((((w5.setCell ⟨B, 0, none⟩ (.slice a0 d.st.length c0)).setCell ⟨B, 1, none⟩ (.slice a1 d.sp.length c1)).setCell ⟨B, 2, none⟩ (.slice a2 d.bd.length c2)).setCell ⟨B, 3, none⟩ (.float .f64 d.off)).setCell ⟨B, 4, none⟩ (.int .i64 d.bus)).setCell ⟨B, 5, none⟩ (.int .i64 d.busDaily)).setCell ⟨B, 6, none⟩ (.int .i64 d.busWeekly)).setCell ⟨B, 7, none⟩ (.int .i64 d.hopper)).setCell ⟨B, 8, none⟩ (.int .i64 d.most)).setCell ⟨B, 9, none⟩ (.int .i64 d.longest)).setCell ⟨B, 10, none⟩ (.int .i64 d.change)).setCell ⟨B, 11, none⟩ (.int .i64 d.passback)).setCell ⟨B, 12, none⟩ (.int .i64 d.delay)).setCell ⟨B, 13, none⟩ (.int .i64 d.threshold)).setCell ⟨R1, 0, none⟩ (.int .i64 c)).setCell ⟨R1, 1, none⟩ (.int .i64 f))) := (Fr.setCell (Fr.setCell (Fr.setCell (Fr.setCell (Fr.setCell (Fr.setCell (Fr.setCell (Fr.setCell (Fr.setCell (Fr.setCell (Fr.setCell (Fr.setCell (Fr.setCell (Fr.setCell (Fr.setCell (Fr.setCell k0 (p := ⟨B, 0, none⟩) (fun h => absurd h (unhide HBL).1) (.slice a0 d.st.length c0)) (p := ⟨B, 1, none⟩) (fun h => absurd h (unhide HBL).1) (.slice a1 d.sp.length c1)) (p := ⟨B, 2, none⟩) (fun h => absurd h (unhide HBL).1) (.slice a2 d.bd.length c2)) (p := ⟨B, 3, none⟩) (fun h => absurd h (unhide HBL).1) (.float .f64 d.off)) (p := ⟨B, 4, none⟩) (fun h => absurd h (unhide HBL).1) (.int .i64 d.bus)) (p := ⟨B, 5, none⟩) (fun h => absurd h (unhide HBL).1) (.int .i64 d.busDaily)) (p := ⟨B, 6, none⟩) (fun h => absurd h (unhide HBL).1) (.int .i64 d.busWeekly)) (p := ⟨B, 7, none⟩) (fun h => absurd h (unhide HBL).1) (.int .i64 d.hopper)) (p := ⟨B, 8, none⟩) (fun h => absurd h (unhide HBL).1) (.int .i64 d.most)) (p := ⟨B, 9, none⟩) (fun h => absurd h (unhide HBL).1) (.int .i64 d.longest)) (p := ⟨B, 10, none⟩) (fun h => absurd h (unhide HBL).1) (.int .i64 d.change)) (p := ⟨B, 11, none⟩) (fun h => absurd h (unhide HBL).1) (.int .i64 d.passback)) (p := ⟨B, 12, none⟩) (fun h => absurd h (unhide HBL).1) (.int .i64 d.delay)) (p := ⟨B, 13, none⟩) (fun h => absurd h (unhide HBL).1) (.int .i64 d.threshold)) (p := ⟨R1, 0, none⟩) (fun h => absurd h (unhide HBL).2) (.int .i64 c)) (p := ⟨R1, 1, none⟩) (fun h => absurd h (unhide HBL).2) (.int .i64 f))
  exact bodyPost_ret (v := .tuple #[.agg #[.slice a0 d.st.length c0, .slice a1 d.sp.length c1, .slice a2 d.bd.length c2, .float .f64 d.off, .int .i64 d.bus, .int .i64 d.busDaily, .int .i64 d.busWeekly, .int .i64 d.hopper, .int .i64 d.most, .int .i64 d.longest, .int .i64 d.change, .int .i64 d.passback, .int .i64 d.delay, .int .i64 d.threshold], .agg #[.int .i64 c, .int .i64 f]]) (results_bx2 rfl _ rfl rfl e1 e2 Tryz.underlying27 rfl (tar_size _ rfl) Tryz.underlying37 rfl (fault_size _ _)) rfl ⟨⟨a0, c0, a1, c1, a2, c2⟩, g0, g1, g2, rfl, TNew.later (TNew.go (unhide HK5) (S := fun q => q = B ∨ q = R1) ((Fr.setCell (Fr.setCell (Fr.setCell (Fr.setCell (Fr.setCell (Fr.setCell (Fr.setCell (Fr.setCell (Fr.setCell (Fr.setCell (Fr.setCell (Fr.setCell (Fr.setCell (Fr.setCell (Fr.setCell (Fr.setCell (Fr.refl _ w5) (p := ⟨B, 0, none⟩) (fun _ => Or.inl rfl) (.slice a0 d.st.length c0)) (p := ⟨B, 1, none⟩) (fun _ => Or.inl rfl) (.slice a1 d.sp.length c1)) (p := ⟨B, 2, none⟩) (fun _ => Or.inl rfl) (.slice a2 d.bd.length c2)) (p := ⟨B, 3, none⟩) (fun _ => Or.inl rfl) (.float .f64 d.off)) (p := ⟨B, 4, none⟩) (fun _ => Or.inl rfl) (.int .i64 d.bus)) (p := ⟨B, 5, none⟩) (fun _ => Or.inl rfl) (.int .i64 d.busDaily)) (p := ⟨B, 6, none⟩) (fun _ => Or.inl rfl) (.int .i64 d.busWeekly)) (p := ⟨B, 7, none⟩) (fun _ => Or.inl rfl) (.int .i64 d.hopper)) (p := ⟨B, 8, none⟩) (fun _ => Or.inl rfl) (.int .i64 d.most)) (p := ⟨B, 9, none⟩) (fun _ => Or.inl rfl) (.int .i64 d.longest)) (p := ⟨B, 10, none⟩) (fun _ => Or.inl rfl) (.int .i64 d.change)) (p := ⟨B, 11, none⟩) (fun _ => Or.inl rfl) (.int .i64 d.passback)) (p := ⟨B, 12, none⟩) (fun _ => Or.inl rfl) (.int .i64 d.delay)) (p := ⟨B, 13, none⟩) (fun _ => Or.inl rfl) (.int .i64 d.threshold)) (p := ⟨R1, 0, none⟩) (fun _ => Or.inr rfl) (.int .i64 c)) (p := ⟨R1, 1, none⟩) (fun _ => Or.inr rfl) (.int .i64 f))) (fun q hq => by have := unhide HS; omega)) (unhide HS0), e3⟩

end Go.Proofs.YtkjoojamkbpfcaaGreat

