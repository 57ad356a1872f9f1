import Derived.Test.YtabhfeocelljdaaDoorZX0
import Derived.Test.YtabhfeocelljdaaDoorZC1
/- LinkDrains: mathematics. All is let go within so many ticks. -/
namespace Go.Proofs.YtabhfeocelljdaaDoor
open Go.RowKit

/-- How many ticks until an item is sent. -/
def dueIn (s : Snd) (q : Int) : Int := match sAt s.sent q with | none => 1 | some t => max 1 (t + s.evy - s.clk)

theorem openF_seqs (bat base n : Int) (b : List UInt8) (fs : List Fm) : (addF b (openF bat base n fs)).map Fm.seq = fs.map Fm.seq ∨ (addF b (openF bat base n fs)).map Fm.seq = fs.map Fm.seq ++ [n] := by
  unfold openF
  by_cases hj : joinsF bat fs n = true
  · rw [if_pos hj]
    unfold joinsF at hj
    rcases List.eq_nil_or_concat fs with rfl | ⟨pre, f, rfl⟩
    · simp at hj
    · rw [List.concat_eq_append, addF_snoc]
      left
      simp
  · rw [if_neg hj, addF_snoc]
    right
    simp

theorem foldl_invD {α β : Type} (P : β → Prop) (f : β → α → β) : ∀ (l : List α) (b : β), P b → (∀ b x, x ∈ l → P b → P (f b x)) → P (l.foldl f b)
  | [], _, h, _ => h
  | x :: r, b, h, hs => foldl_invD P f r (f b x) (hs b x List.mem_cons_self h) (fun b y hy hb => hs b y (List.mem_cons_of_mem _ hy) hb)

theorem numI_up (q : Int) (l : List (List UInt8)) : ∀ x ∈ numI q l, q ≤ x.seq := by
  intro x hx
  obtain ⟨i, hi, rfl⟩ := List.mem_iff_getElem.1 hx
  rw [numI_get q l i (by rw [numI_length] at hi; exact hi)]
  show q ≤ q + (i : Int)
  omega

/-- What a tick does with the first item. -/
theorem tick_first {s : Snd} (hu : Uni s.sent) (hw : 1 ≤ s.win) (he : 1 ≤ s.evy) {q : Int} {l : List (List UInt8)} (hl : 0 < l.length) (hq : 1 ≤ q) (hm : q + l.length ≤ 4294967296) (hb : ∀ b ∈ l, b.length ≤ 256) :
    (dueIn s q = 1 → (∃ L, (tickF s (numI q l)).2.map Fm.seq = q :: L ∧ ∀ y ∈ L, q < y) ∧ dueIn (tickF s (numI q l)).1 q = s.evy) ∧
    (1 < dueIn s q → (∀ y ∈ (tickF s (numI q l)).2.map Fm.seq, q < y) ∧ dueIn (tickF s (numI q l)).1 q = dueIn s q - 1) := by
  obtain ⟨b, r, rfl⟩ : ∃ b r, l = b :: r := by
    cases l with
    | nil => simp at hl
    | cons b r => exact ⟨b, r, rfl⟩
  obtain ⟨K, hK⟩ : ∃ K : Nat, s.win.toNat = K + 1 := ⟨s.win.toNat - 1, by omega⟩
  have hQ := numI_isQ q (b :: r) hq hm hb
  have hup : ∀ x ∈ (numI (q + 1) r).take K, q < x.seq := fun x hx => by
    have := numI_up (q + 1) r x (List.mem_of_mem_take hx)
    omega
  have hT : tickF s (numI q (b :: r)) = ({ s with clk := s.clk + 1, sent := (((numI (q + 1) r).take K).foldl (stepT { s with clk := s.clk + 1 } q) (stepT { s with clk := s.clk + 1 } q (s.sent.filter (keepS (numI q (b :: r)) (s.clk + 1) s.evy), []) ⟨q, b⟩)).1 }, (((numI (q + 1) r).take K).foldl (stepT { s with clk := s.clk + 1 } q) (stepT { s with clk := s.clk + 1 } q (s.sent.filter (keepS (numI q (b :: r)) (s.clk + 1) s.evy), []) ⟨q, b⟩)).2) := by
    unfold tickF
    rw [hQ, hK]
    rfl
  have hF : sAt (s.sent.filter (keepS (numI q (b :: r)) (s.clk + 1) s.evy)) q = (sAt s.sent q).filter (fun a => decide (s.clk + 1 - a < s.evy)) := by
    rw [sAt_filterX hu]
    congr 1
    funext a
    simp [keepS, numI]
  have hstep : ∀ (v : Option Int) (st : List (Int × Int) × List Fm) (x : Itm), q < x.seq → sAt st.1 q = v → sAt (stepT { s with clk := s.clk + 1 } q st x).1 q = v ∧ ((stepT { s with clk := s.clk + 1 } q st x).2.map Fm.seq = st.2.map Fm.seq ∨ (stepT { s with clk := s.clk + 1 } q st x).2.map Fm.seq = st.2.map Fm.seq ++ [x.seq]) := by
    intro v st x hx hv
    unfold stepT
    by_cases hs : (sAt st.1 x.seq).isSome = true
    · rw [if_pos hs]
      exact ⟨hv, .inl rfl⟩
    · rw [if_neg hs]
      refine ⟨?_, openF_seqs _ _ _ _ _⟩
      rw [sAt_snoc _ _ _ _ (by simpa using hs), if_neg (by omega)]
      exact hv
  rw [hT]
  generalize hFI : s.sent.filter (keepS (numI q (b :: r)) (s.clk + 1) s.evy) = FI at *
  refine ⟨fun hd => ?_, fun hd => ?_⟩
  · have hn : sAt FI q = none := by
      rw [hF]
      unfold dueIn at hd
      cases ha : sAt s.sent q with
      | none => rfl
      | some t =>
        rw [ha] at hd
        simp only at hd
        simp [Option.filter]
        omega
    have hs0 : stepT { s with clk := s.clk + 1 } q (FI, []) ⟨q, b⟩ = (FI ++ [(q, s.clk + 1)], [⟨1, q, q, [b], []⟩]) := by
      unfold stepT
      rw [if_neg (by rw [hn]; simp)]
      simp [openF, joinsF, addF]
    rw [hs0]
    have hinv := foldl_invD (fun st : List (Int × Int) × List Fm => sAt st.1 q = some (s.clk + 1) ∧ ∃ L, st.2.map Fm.seq = q :: L ∧ ∀ y ∈ L, q < y) (stepT { s with clk := s.clk + 1 } q) ((numI (q + 1) r).take K) (FI ++ [(q, s.clk + 1)], [⟨1, q, q, [b], []⟩])
      ⟨by show sAt (FI ++ [(q, s.clk + 1)]) q = _; rw [sAt_snoc _ _ _ _ (by rw [hn]; rfl), if_pos rfl], [], rfl, fun y hy => by (cases hy)⟩
      (fun st x hx hst => by
        obtain ⟨h1, L, h2, h3⟩ := hst
        obtain ⟨k1, k2⟩ := hstep _ st x (hup x hx) h1
        refine ⟨k1, ?_⟩
        rcases k2 with k2 | k2
        · exact ⟨L, k2.trans h2, h3⟩
        · refine ⟨L ++ [x.seq], by rw [k2, h2]; rfl, fun y hy => ?_⟩
          rcases List.mem_append.1 hy with hy | hy
          · exact h3 y hy
          · rw [List.mem_singleton] at hy
            subst hy
            exact hup x hx)
    generalize ((numI (q + 1) r).take K).foldl (stepT { s with clk := s.clk + 1 } q) (FI ++ [(q, s.clk + 1)], [⟨1, q, q, [b], []⟩]) = FS at hinv ⊢
    refine ⟨hinv.2, ?_⟩
    unfold dueIn
    simp only [hinv.1]
    omega
  · have hn : ∃ t, sAt s.sent q = some t ∧ sAt FI q = some t ∧ dueIn s q = t + s.evy - s.clk := by
      unfold dueIn at hd ⊢
      cases ha : sAt s.sent q with
      | none => rw [ha] at hd; simp at hd
      | some t =>
        rw [ha] at hd
        simp only at hd
        refine ⟨t, rfl, ?_, by simp only; omega⟩
        rw [hF, ha]
        have : s.clk + 1 - t < s.evy := by omega
        simp [Option.filter, this]
    obtain ⟨t, ht0, ht, hdu⟩ := hn
    have hs0 : stepT { s with clk := s.clk + 1 } q (FI, []) ⟨q, b⟩ = (FI, []) := by
      unfold stepT
      rw [if_pos (by rw [ht]; rfl)]
    rw [hs0]
    have hinv := foldl_invD (fun st : List (Int × Int) × List Fm => sAt st.1 q = some t ∧ ∀ y ∈ st.2.map Fm.seq, q < y) (stepT { s with clk := s.clk + 1 } q) ((numI (q + 1) r).take K) (FI, [])
      ⟨ht, fun y hy => by (cases hy)⟩
      (fun st x hx hst => by
        obtain ⟨h1, h3⟩ := hst
        obtain ⟨k1, k2⟩ := hstep _ st x (hup x hx) h1
        refine ⟨k1, ?_⟩
        rcases k2 with k2 | k2
        · rw [k2]; exact h3
        · rw [k2]
          intro y hy
          rcases List.mem_append.1 hy with hy | hy
          · exact h3 y hy
          · rw [List.mem_singleton] at hy
            subst hy
            exact hup x hx)
    generalize ((numI (q + 1) r).take K).foldl (stepT { s with clk := s.clk + 1 } q) (FI, []) = FS at hinv ⊢
    refine ⟨hinv.2, ?_⟩
    rw [hdu]
    unfold dueIn
    simp only [hinv.1]
    omega

/-- No item is noted twice behind a tick either. -/
theorem tickF_uni {s : Snd} (h : Uni s.sent) (its : List Itm) : Uni (tickF s its).1.sent := by
  unfold tickF
  split
  · refine foldl_invD (fun st : List (Int × Int) × List Fm => Uni st.1) _ _ _ (h.filter _) (fun st x _ hst => ?_)
    unfold stepT
    split
    · exact hst
    · rename_i hs
      exact hst.snoc _ _ (sAt_noneX (by simpa using hs))
  · exact h
/-- Ticks that were. -/
theorem tickF_tks {s : Snd} (h : ∀ e ∈ s.sent, e.2 ≤ s.clk) (its : List Itm) : ∀ e ∈ (tickF s its).1.sent, e.2 ≤ (tickF s its).1.clk := by
  unfold tickF
  split
  · refine foldl_invD (fun st : List (Int × Int) × List Fm => ∀ e ∈ st.1, e.2 ≤ s.clk + 1) _ _ _ (fun e he => by have := h e (List.mem_filter.1 he).1; omega) (fun st x _ hst => ?_)
    unfold stepT
    split
    · exact hst
    · intro e he
      rcases List.mem_append.1 he with he | he
      · exact hst e he
      · rw [List.mem_singleton] at he
        subst he
        exact Int.le_refl _
  · intro e he
    have := h e he
    show e.2 ≤ s.clk + 1
    omega
theorem dueIn_in {s : Snd} (h : ∀ e ∈ s.sent, e.2 ≤ s.clk) (he : 1 ≤ s.evy) (q : Int) : 1 ≤ dueIn s q ∧ dueIn s q ≤ s.evy := by
  unfold dueIn
  cases ha : sAt s.sent q with
  | none => exact ⟨Int.le_refl _, he⟩
  | some t =>
    have := h _ (sAt_memX ha)
    simp only at this ⊢
    omega

/-- What the law holds: what the receiver takes next, how many acknowledgements were lost in a row, what was let go, how often in a row each item was lost. -/
structure Dst where
  R : Int
  mA : Int
  g : Int
  ms : List Int
def recvF (R base seq len : Int) : Int := if max R base < seq then max R base else max (max R base) (seq + len)
def mustF (k : Int) (ms : List Int) (a L : Nat) : Bool := decide (∃ m, m < L ∧ k - 1 ≤ ms.getD (a + m) 0)
def msUp (d : Bool) (ms : List Int) (a : Nat) : Nat → List Int
  | 0 => ms
  | m + 1 => (msUp d ms a m).set (a + m) (if d then ms.getD (a + m) 0 + 1 else 0)
def frStep (k : Int) (st : Dst) (base : Int) (a L : Nat) (l1 l2 : Bool) : Dst :=
  if !mustF k st.ms a L && l1 then { st with ms := msUp true st.ms a L }
  else if decide (st.mA < k - 1) && l2 then ⟨recvF st.R base a L, st.mA + 1, st.g, msUp false st.ms a L⟩
  else ⟨recvF st.R base a L, 0, max st.g (recvF st.R base a L - 1), msUp false st.ms a L⟩

theorem msUp_length (d : Bool) (ms : List Int) (a L : Nat) : (msUp d ms a L).length = ms.length := by
  induction L with
  | zero => rfl
  | succ L ih => simp [msUp, ih]
theorem msUp_at (d : Bool) (ms : List Int) (a L : Nat) (h : a + L ≤ ms.length) (j : Nat) : (msUp d ms a L).getD j 0 = if a ≤ j ∧ j < a + L then (if d then ms.getD j 0 + 1 else 0) else ms.getD j 0 := by
  induction L with
  | zero => rw [if_neg (by omega)]; rfl
  | succ L ih =>
    have ih := ih (by omega)
    have hl := msUp_length d ms a L
    simp only [msUp]
    by_cases hj : j = a + L
    · subst hj
      have hin : a ≤ a + L ∧ a + L < a + (L + 1) := by omega
      rw [if_pos hin, List.getD_eq_getElem?_getD, List.getElem?_set_self (by omega)]
      rfl
    · rw [List.getD_eq_getElem?_getD, List.getElem?_set_ne (by omega), ← List.getD_eq_getElem?_getD, ih]
      by_cases t : a ≤ j ∧ j < a + L
      · have t2 : a ≤ j ∧ j < a + (L + 1) := by omega
        rw [if_pos t, if_pos t2]
      · have t2 : ¬ (a ≤ j ∧ j < a + (L + 1)) := by omega
        rw [if_neg t, if_neg t2]

/-- What holds of it. -/
structure DI (k n : Int) (st : Dst) : Prop where
  len : (st.ms.length : Int) = n + 1
  each : ∀ j, 0 ≤ st.ms.getD j 0 ∧ st.ms.getD j 0 ≤ k - 1
  mA : 0 ≤ st.mA ∧ st.mA ≤ k - 1
  g : 0 ≤ st.g ∧ st.g ≤ n
  R : 0 ≤ st.R ∧ st.R ≤ n + 1

theorem recvF_in {R base seq len n : Int} (hR : 0 ≤ R ∧ R ≤ n + 1) (hb : 1 ≤ base ∧ base ≤ n) (hs : 1 ≤ seq ∧ 1 ≤ len ∧ seq + len ≤ n + 1) : 1 ≤ recvF R base seq len ∧ recvF R base seq len ≤ n + 1 := by
  unfold recvF
  split <;> omega

theorem frStep_ok {k n : Int} {st : Dst} (h : DI k n st) (hk : 1 ≤ k) {base : Int} {a L : Nat} (l1 l2 : Bool) (hb : 1 ≤ base ∧ base ≤ n) (hs : 1 ≤ a ∧ 1 ≤ L ∧ (a : Int) + L ≤ n + 1) : DI k n (frStep k st base a L l1 l2) ∧ st.g ≤ (frStep k st base a L l1 l2).g := by
  have hlen := h.len
  have hat := fun d j => msUp_at d st.ms a L (by omega) j
  have hrv := recvF_in h.R hb (seq := a) (len := L) (by omega)
  unfold frStep
  split
  · rename_i hd
    refine ⟨⟨by show ((msUp true st.ms a L).length : Int) = n + 1; rw [msUp_length]; exact hlen, fun j => ?_, h.mA, h.g, h.R⟩, Int.le_refl _⟩
    show 0 ≤ (msUp true st.ms a L).getD j 0 ∧ (msUp true st.ms a L).getD j 0 ≤ k - 1
    rw [hat]
    have hj := h.each j
    split
    · rename_i hin
      have hm : mustF k st.ms a L = false := by
        cases hm : mustF k st.ms a L with
        | false => rfl
        | true => rw [hm] at hd; simp at hd
      unfold mustF at hm
      have hno := of_decide_eq_false hm
      have : ¬ (k - 1 ≤ st.ms.getD j 0) := fun t => hno ⟨j - a, by omega, by rw [show a + (j - a) = j by omega]; exact t⟩
      simp only [if_true]
      omega
    · exact hj
  · have heach : ∀ j, 0 ≤ (msUp false st.ms a L).getD j 0 ∧ (msUp false st.ms a L).getD j 0 ≤ k - 1 := fun j => by
      rw [hat]
      have hj := h.each j
      split
      · simp; omega
      · exact hj
    have hl2 : ((msUp false st.ms a L).length : Int) = n + 1 := by rw [msUp_length]; exact hlen
    have hg := h.g
    have hmA := h.mA
    split
    · rename_i hd
      simp only [Bool.and_eq_true, decide_eq_true_eq] at hd
      exact ⟨⟨hl2, heach, ⟨by show 0 ≤ st.mA + 1; omega, by show st.mA + 1 ≤ k - 1; omega⟩, hg, ⟨by show 0 ≤ recvF _ _ _ _; omega, hrv.2⟩⟩, Int.le_refl _⟩
    · exact ⟨⟨hl2, heach, ⟨by show (0 : Int) ≤ 0; omega, by show (0 : Int) ≤ k - 1; omega⟩, ⟨by show 0 ≤ max st.g _; omega, by show max st.g _ ≤ n; omega⟩, ⟨by show 0 ≤ recvF _ _ _ _; omega, hrv.2⟩⟩, by show st.g ≤ max st.g _; omega⟩

/-- How far it is still. -/
def potD (k E : Int) (st : Dst) (g0 : Nat) (d : Int) : Int :=
  if st.R ≤ (g0 : Int) + 1 then (k - 1 - st.ms.getD (g0 + 1) 0) * E + d + k * (k * E) else (k - 1 - st.mA) * (k * E) + ((k - 1 - st.ms.getD (g0 + 1) 0) * E + d)

theorem mulA {x k E : Int} (hx : 0 ≤ x ∧ x ≤ k - 1) (hE : 0 ≤ E) : 0 ≤ x * E ∧ x * E + E ≤ k * E := by
  refine ⟨Int.mul_nonneg hx.1 hE, ?_⟩
  have h1 : (x + 1) * E ≤ k * E := Int.mul_le_mul_of_nonneg_right (by omega) hE
  rw [Int.add_mul, Int.one_mul] at h1
  exact h1
theorem mulB (x E : Int) : (x - 1) * E = x * E - E := by rw [Int.sub_mul, Int.one_mul]

theorem potD_in {k n E : Int} {st : Dst} (h : DI k n st) (hk : 1 ≤ k) (hE : 1 ≤ E) (g0 : Nat) {d : Int} (hd : 1 ≤ d ∧ d ≤ E) : 1 ≤ potD k E st g0 d ∧ potD k E st g0 d ≤ k * E + k * (k * E) := by
  have hm := h.each (g0 + 1)
  have a1 := mulA (x := k - 1 - st.ms.getD (g0 + 1) 0) (k := k) (E := E) (by omega) (by omega)
  have hKE : 0 ≤ k * E := Int.mul_nonneg (by omega) (by omega)
  have hmA := h.mA
  have a2 := mulA (x := k - 1 - st.mA) (k := k) (E := k * E) (by omega) hKE
  have a3 : 0 ≤ k * (k * E) := Int.mul_nonneg (by omega) hKE
  unfold potD
  split <;> omega

/-- A frame without the first item that waits. -/
theorem frStep_off {k n E : Int} {st : Dst} (h : DI k n st) (hE : 1 ≤ E) (hk : 1 ≤ k) {g0 a L : Nat} (l1 l2 : Bool) (hg : st.g = g0) (hs : g0 + 1 < a ∧ 1 ≤ L ∧ (a : Int) + L ≤ n + 1) (d : Int) :
    (g0 : Int) < (frStep k st ((g0 : Int) + 1) a L l1 l2).g ∨ ((frStep k st ((g0 : Int) + 1) a L l1 l2).g = g0 ∧ potD k E (frStep k st ((g0 : Int) + 1) a L l1 l2) g0 d ≤ potD k E st g0 d) := by
  have hlen := h.len
  have hat := fun d => (msUp_at d st.ms a L (by omega) (g0 + 1)).trans (if_neg (by omega))
  have hKE : 0 ≤ k * E := Int.mul_nonneg (by omega) (by omega)
  have hrv : recvF st.R ((g0 : Int) + 1) a L = if st.R ≤ (g0 : Int) + 1 then (g0 : Int) + 1 else recvF st.R ((g0 : Int) + 1) a L := by
    split
    · unfold recvF
      rw [if_pos (by omega)]
      omega
    · rfl
  have hrv2 : (g0 : Int) + 1 < st.R → (g0 : Int) + 1 < recvF st.R ((g0 : Int) + 1) a L := fun t => by
    unfold recvF
    split <;> omega
  unfold frStep
  split
  · right
    refine ⟨hg, ?_⟩
    unfold potD
    simp only [hat]
    exact Int.le_refl _
  · split
    · right
      refine ⟨hg, ?_⟩
      unfold potD
      simp only [hat]
      by_cases hR : st.R ≤ (g0 : Int) + 1
      · rw [hrv, if_pos hR, if_pos (by omega), if_pos hR]
        exact Int.le_refl _
      · have := hrv2 (by omega)
        rw [if_neg (by omega), if_neg hR]
        have : (k - 1 - (st.mA + 1)) * (k * E) = (k - 1 - st.mA) * (k * E) - k * E := by rw [show k - 1 - (st.mA + 1) = (k - 1 - st.mA) - 1 by omega, mulB]
        omega
    · by_cases hR : st.R ≤ (g0 : Int) + 1
      · right
        refine ⟨?_, ?_⟩
        · show max st.g (recvF st.R ((g0 : Int) + 1) a L - 1) = g0
          rw [hrv, if_pos hR]
          omega
        · unfold potD
          simp only [hat]
          rw [hrv, if_pos hR, if_pos (by omega), if_pos hR]
          exact Int.le_refl _
      · left
        have := hrv2 (by omega)
        show (g0 : Int) < max st.g (recvF st.R ((g0 : Int) + 1) a L - 1)
        omega

/-- The frame with the first item that waits. -/
theorem frStep_on {k n E : Int} {st : Dst} (h : DI k n st) (hE : 1 ≤ E) (hk : 1 ≤ k) {g0 L : Nat} (l1 l2 : Bool) (hg : st.g = g0) (hs : 1 ≤ L ∧ (g0 : Int) + 1 + L ≤ n + 1) :
    (g0 : Int) < (frStep k st ((g0 : Int) + 1) (g0 + 1) L l1 l2).g ∨ ((frStep k st ((g0 : Int) + 1) (g0 + 1) L l1 l2).g = g0 ∧ potD k E (frStep k st ((g0 : Int) + 1) (g0 + 1) L l1 l2) g0 E + 1 ≤ potD k E st g0 1) := by
  have hlen := h.len
  have hat := fun d => (msUp_at d st.ms (g0 + 1) L (by omega) (g0 + 1)).trans (if_pos (by omega))
  have hKE : 0 ≤ k * E := Int.mul_nonneg (by omega) (by omega)
  have hm := h.each (g0 + 1)
  have hmA := h.mA
  have a1 := mulA (x := k - 1 - st.ms.getD (g0 + 1) 0) (k := k) (E := E) (by omega) (by omega)
  have a2 := mulA (x := k - 1 - st.mA) (k := k) (E := k * E) (by omega) hKE
  have a4 := mulA (x := k - 1 - 0) (k := k) (E := E) (by omega) (by omega)
  have hrv : (g0 : Int) + 1 < recvF st.R ((g0 : Int) + 1) ((g0 + 1 : Nat) : Int) L := by
    unfold recvF
    rw [if_neg (by omega)]
    omega
  unfold frStep
  split
  · right
    refine ⟨hg, ?_⟩
    unfold potD
    simp only [hat, if_true]
    have : (k - 1 - (st.ms.getD (g0 + 1) 0 + 1)) * E = (k - 1 - st.ms.getD (g0 + 1) 0) * E - E := by rw [show k - 1 - (st.ms.getD (g0 + 1) 0 + 1) = (k - 1 - st.ms.getD (g0 + 1) 0) - 1 by omega, mulB]
    split <;> omega
  · split
    · right
      refine ⟨hg, ?_⟩
      unfold potD
      simp only [hat, Bool.false_eq_true, if_false]
      rw [if_neg (by omega)]
      have : (k - 1 - (st.mA + 1)) * (k * E) = (k - 1 - st.mA) * (k * E) - k * E := by rw [show k - 1 - (st.mA + 1) = (k - 1 - st.mA) - 1 by omega, mulB]
      split <;> omega
    · left
      show (g0 : Int) < max st.g (recvF st.R ((g0 : Int) + 1) ((g0 + 1 : Nat) : Int) L - 1)
      omega

/-- All frames of a tick, so many of them have gone. -/
structure DT (k n E : Int) (g0 : Nat) (st0 : Dst) (d0 : Int) (fs : List Fm) (i : Nat) (st : Dst) : Prop where
  di : DI k n st
  up : (g0 : Int) ≤ st.g
  po : st.g = g0 → (d0 = 1 → if i = 0 then st = st0 else potD k E st g0 E + 1 ≤ potD k E st0 g0 1) ∧ (1 < d0 → potD k E st g0 (d0 - 1) + 1 ≤ potD k E st0 g0 d0)

theorem potD_d (k E : Int) (st : Dst) (g0 : Nat) (d : Int) : potD k E st g0 (d - 1) + 1 = potD k E st g0 d := by
  unfold potD
  split <;> omega

theorem DT.start {k n E : Int} {g0 : Nat} {st0 : Dst} {d0 : Int} {fs : List Fm} (h : DI k n st0) (hg : st0.g = g0) : DT k n E g0 st0 d0 fs 0 st0 :=
  ⟨h, by omega, fun _ => ⟨fun _ => rfl, fun _ => by rw [potD_d]; exact Int.le_refl _⟩⟩

theorem DT.next {k n E : Int} {g0 : Nat} {st0 : Dst} {d0 : Int} {fs : List Fm} {i : Nat} {st : Dst} (h : DT k n E g0 st0 d0 fs i st) (hE : 1 ≤ E) (hk : 1 ≤ k) (hgn : (g0 : Int) < n)
    (h1 : d0 = 1 → ∃ L, fs.map Fm.seq = ((g0 : Int) + 1) :: L ∧ ∀ y ∈ L, (g0 : Int) + 1 < y) (h2 : 1 < d0 → ∀ y ∈ fs.map Fm.seq, (g0 : Int) + 1 < y) (hi : i < fs.length) {a L : Nat} (ha : fs[i].seq = a) (hs : 1 ≤ a ∧ 1 ≤ L ∧ (a : Int) + L ≤ n + 1) (l1 l2 : Bool) :
    DT k n E g0 st0 d0 fs (i + 1) (frStep k st ((g0 : Int) + 1) a L l1 l2) := by
  obtain ⟨o1, o2⟩ := frStep_ok h.di hk (base := (g0 : Int) + 1) (a := a) (L := L) l1 l2 (by omega) hs
  have hup := h.up
  refine ⟨o1, by omega, fun hg' => ?_⟩
  have hg : st.g = g0 := by omega
  obtain ⟨p1, p2⟩ := h.po hg
  refine ⟨fun e => ?_, fun e => ?_⟩
  · rw [if_neg (by omega)]
    obtain ⟨Ls, e1, e2⟩ := h1 e
    have hmap : (fs.map Fm.seq)[i]? = some (a : Int) := by rw [List.getElem?_map, List.getElem?_eq_getElem hi, Option.map_some, ha]
    rw [e1] at hmap
    have p1 := p1 e
    cases i with
    | zero =>
      rw [if_pos rfl] at p1
      subst p1
      have ea : a = g0 + 1 := by simp at hmap; omega
      subst ea
      rcases frStep_on h.di hE hk (g0 := g0) (L := L) l1 l2 hg (by omega) with t | ⟨_, t⟩
      · omega
      · exact t
    | succ i =>
      rw [if_neg (by omega)] at p1
      have hy : (a : Int) ∈ Ls := List.mem_of_getElem? (by simpa using hmap)
      have := e2 _ hy
      rcases frStep_off h.di hE hk (g0 := g0) (L := L) l1 l2 hg (a := a) (by omega) E with t | ⟨_, t⟩
      · omega
      · omega
  · have p2 := p2 e
    have hy : (a : Int) ∈ fs.map Fm.seq := by
      rw [← ha]
      exact List.mem_map.2 ⟨fs[i], List.getElem_mem hi, rfl⟩
    have := h2 e _ hy
    rcases frStep_off h.di hE hk (g0 := g0) (L := L) l1 l2 hg (a := a) (by omega) (d0 - 1) with t | ⟨_, t⟩
    · omega
    · omega

/-- How far it is till all is let go. -/
def farD (k n E : Int) (st : Dst) (d : Int) : Int := (n - st.g - 1) * (k * E + k * (k * E)) + potD k E st st.g.toNat d

/-- A tick brings it nearer. -/
theorem DT.ends {k n E : Int} {g0 : Nat} {st0 : Dst} {d0 d1 : Int} {fs : List Fm} {st : Dst} (h : DT k n E g0 st0 d0 fs fs.length st) (h0 : DI k n st0) (hg0 : st0.g = g0) (hE : 1 ≤ E) (hk : 1 ≤ k) (hd : 1 ≤ d0 ∧ d0 ≤ E) (hd1 : 1 ≤ d1 ∧ d1 ≤ E)
    (h1 : d0 = 1 → 0 < fs.length) (h2 : st.g = g0 → d0 = 1 → d1 = E) (h3 : st.g = g0 → 1 < d0 → d1 = d0 - 1) : farD k n E st d1 + 1 ≤ farD k n E st0 d0 := by
  have hB : 0 ≤ k * E + k * (k * E) := by
    have : 0 ≤ k * E := Int.mul_nonneg (by omega) (by omega)
    have : 0 ≤ k * (k * E) := Int.mul_nonneg (by omega) this
    omega
  have hup := h.up
  unfold farD
  have e0 : st0.g.toNat = g0 := by omega
  by_cases hg : st.g = g0
  · obtain ⟨p1, p2⟩ := h.po hg
    have e1 : st.g.toNat = g0 := by omega
    rw [hg, hg0, Int.toNat_natCast]
    by_cases e : d0 = 1
    · have p1 := p1 e
      have := h1 e
      rw [if_neg (by omega)] at p1
      rw [h2 hg e, e]
      omega
    · have p2 := p2 (by omega)
      rw [h3 hg (by omega)]
      omega
  · obtain ⟨_, b2⟩ := potD_in h.di hk hE st.g.toNat hd1
    obtain ⟨b1, _⟩ := potD_in h0 hk hE st0.g.toNat hd
    have hm : (n - st.g) * (k * E + k * (k * E)) ≤ (n - st0.g - 1) * (k * E + k * (k * E)) := Int.mul_le_mul_of_nonneg_right (by omega) hB
    have hm2 : (n - st.g - 1) * (k * E + k * (k * E)) = (n - st.g) * (k * E + k * (k * E)) - (k * E + k * (k * E)) := mulB _ _
    omega

/-- How far it is at first. -/
theorem farD_first {k n E : Int} {st : Dst} (h : DI k n st) (hg : st.g = 0) (hk : 1 ≤ k) (hE : 1 ≤ E) {d : Int} (hd : 1 ≤ d ∧ d ≤ E) : farD k n E st d ≤ n * (k * E + k * (k * E)) := by
  obtain ⟨_, b2⟩ := potD_in h hk hE st.g.toNat hd
  unfold farD
  have hm2 : (n - st.g - 1) * (k * E + k * (k * E)) = n * (k * E + k * (k * E)) - (k * E + k * (k * E)) := by rw [hg, show n - 0 - 1 = n - 1 by omega]; exact mulB _ _
  omega
theorem farD_pos {k n E : Int} {st : Dst} (h : DI k n st) (hg : st.g < n) (hk : 1 ≤ k) (hE : 1 ≤ E) {d : Int} (hd : 1 ≤ d ∧ d ≤ E) : 1 ≤ farD k n E st d := by
  obtain ⟨b1, _⟩ := potD_in h hk hE st.g.toNat hd
  have hB : 0 ≤ k * E + k * (k * E) := by
    have : 0 ≤ k * E := Int.mul_nonneg (by omega) (by omega)
    have : 0 ≤ k * (k * E) := Int.mul_nonneg (by omega) this
    omega
  unfold farD
  have := Int.mul_nonneg (show 0 ≤ n - st.g - 1 by omega) hB
  omega

end Go.Proofs.YtabhfeocelljdaaDoor

