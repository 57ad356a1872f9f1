/- The mathematics of SumTells: up to four neighbouring bytes of a frame, changed. No program is named here. -/
import Derived.Test.YtgbaofdbdpopnaaDoorS4
namespace Go.Proofs.YtgbaofdbdpopnaaDoor

/-- Two rows, exchanged bit by bit. -/
def xor2 (x y : List UInt8) : List UInt8 := List.zipWith (· ^^^ ·) x y

theorem run_zip (s t : Nat) (x y : List UInt8) (h : x.length = y.length) : run (s ^^^ t) (xor2 x y) = run s x ^^^ run t y := by
  induction x generalizing s t y with
  | nil =>
    obtain rfl : y = [] := List.eq_nil_of_length_eq_zero (by simpa using h.symm)
    rfl
  | cons c x ih =>
    match y, h with
    | d :: y, h =>
      show run (stp (s ^^^ t) (c ^^^ d)) (xor2 x y) = run (stp s c) x ^^^ run (stp t d) y
      have e : stp (s ^^^ t) (c ^^^ d) = stp s c ^^^ stp t d := by
        unfold stp
        rw [← trn_xor, UInt8.toNat_xor]
        congr 1
        rw [Nat.xor_assoc, Nat.xor_assoc, ← Nat.xor_assoc t, Nat.xor_comm t, Nat.xor_assoc]
      rw [e]
      exact ih _ _ _ (by simpa using h)

/-- A row's number, the lowest byte first. -/
def num : List UInt8 → Nat
  | [] => 0
  | c :: r => c.toNat + 256 * num r

theorem num_lt (l : List UInt8) : num l < 256 ^ l.length := by
  induction l with
  | nil => simp [num]
  | cons c r ih =>
    have := c.toNat_lt
    rw [num, List.length_cons, Nat.pow_succ]
    omega

theorem num_lt4 {l : List UInt8} (h : l.length ≤ 4) : num l < 4294967296 := by
  refine Nat.lt_of_lt_of_le (num_lt l) ?_
  exact Nat.le_trans (Nat.pow_le_pow_right (by omega) h) (by decide)

theorem num_zero {l : List UInt8} (h : num l = 0) : ∀ c ∈ l, c = 0 := by
  induction l with
  | nil => intro c hc; cases hc
  | cons c r ih =>
    rw [num] at h
    intro d hd
    cases List.mem_cons.1 hd with
    | inl e =>
      subst e
      have h0 : d.toNat = 0 := by omega
      exact UInt8.toNat_inj.1 (by simpa using h0)
    | inr e => exact ih (by omega) d e

theorem num_cons (c : UInt8) (r : List UInt8) : num (c :: r) = c.toNat ^^^ 2 ^ 8 * num r := by
  have := split_xor 8 (num r) c.toNat (by have := c.toNat_lt; omega)
  rw [num, Nat.add_comm, show 256 = 2 ^ 8 from rfl, this, Nat.xor_comm]

/-- What up to four bytes make of a number. -/
theorem run_num (l : List UInt8) (s : Nat) : run s l = trn (8 * l.length) (s ^^^ num l) := by
  induction l generalizing s with
  | nil => simp [run, num, trn]
  | cons c r ih =>
    show run (stp s c) r = _
    rw [ih, num_cons, List.length_cons, Nat.mul_succ, trn_add]
    congr 1
    unfold stp
    rw [← Nat.xor_assoc, trn_xor 8 (s ^^^ c.toNat), trn_shift]

theorem num_le4 {n : Nat} (h : n < 4294967296) : num (le4 n) = n := by
  simp only [le4, num, UInt8.toNat_ofNat']
  omega

theorem le4_num {l : List UInt8} (h : l.length = 4) : le4 (num l) = l := by
  match l, h with
  | [a, b, c, d], _ =>
    have ha := a.toNat_lt
    have hb := b.toNat_lt
    have hc := c.toNat_lt
    have hd := d.toNat_lt
    simp only [le4, num, List.cons.injEq, and_true]
    refine ⟨?_, ?_, ?_, ?_⟩ <;> apply UInt8.toNat_inj.1 <;> rw [UInt8.toNat_ofNat'] <;> omega

/-- A row is a frame just if, all of it run, so much comes out. -/
theorem frame_run (body tl : List UInt8) (h : tl.length = 4) : tl = le4 (sumF body) ↔ run 4294967295 (body ++ tl) = trn 32 4294967295 := by
  rw [run_append, run_num, h]
  have hr := run_lt body (show 4294967295 < 4294967296 by omega)
  have hn := num_lt4 (show tl.length ≤ 4 by omega)
  have hs : sumF body = run 4294967295 body ^^^ 4294967295 := by unfold sumF moreF; rw [Nat.zero_xor]
  constructor
  · intro e
    have e2 : num tl = sumF body := by rw [e]; exact num_le4 (sumF_lt body)
    rw [e2, hs, ← Nat.xor_assoc, Nat.xor_self, Nat.zero_xor]
  · intro e
    have e1 : trn (8 * 4) (run 4294967295 body ^^^ num tl ^^^ 4294967295) = 0 := by rw [trn_xor, e, Nat.xor_self]
    have e2 := trn_is_zero (8 * 4) (xor32 (xor32 hr hn) (by omega)) e1
    have e3 : num tl = sumF body := by
      rw [hs]
      have := congrArg (fun q => run 4294967295 body ^^^ q ^^^ 4294967295) e2
      simp only [Nat.xor_zero] at this
      rw [← this, ← Nat.xor_assoc, ← Nat.xor_assoc, Nat.xor_self, Nat.zero_xor, full_twice]
    rw [← e3, le4_num h]

theorem openF_run {l : List UInt8} (h : 4 ≤ l.length) : (openF l).isSome = decide (run 4294967295 l = trn 32 4294967295) := by
  obtain ⟨body, tl, rfl, htl⟩ : ∃ body tl, l = body ++ tl ∧ tl.length = 4 := ⟨l.take (l.length - 4), l.drop (l.length - 4), (List.take_append_drop _ _).symm, by rw [List.length_drop]; omega⟩
  rw [openF_parts body tl htl]
  have := frame_run body tl htl
  by_cases hq : tl = le4 (sumF body)
  · rw [if_pos hq, decide_eq_true (this.1 hq)]; rfl
  · rw [if_neg hq, decide_eq_false (fun t => hq (this.2 t))]; rfl

theorem run_zeros (n s : Nat) : run s (List.replicate n 0) = trn (8 * n) s := by
  induction n generalizing s with
  | zero => rfl
  | succ n ih =>
    rw [List.replicate_succ]
    show run (stp s 0) (List.replicate n 0) = _
    rw [ih, Nat.mul_succ, trn_add]
    congr 1
    simp [stp]

/-- The change: nothing, up to four bytes, nothing. -/
theorem run_change (k : Nat) (ys : List UInt8) (m : Nat) (hy : ys.length ≤ 4) : run 0 (List.replicate k 0 ++ ys ++ List.replicate m 0) = 0 ↔ ∀ c ∈ ys, c = 0 := by
  rw [run_append, run_append, run_zeros, run_zeros, trn_zero, run_num, Nat.zero_xor]
  constructor
  · intro h
    exact num_zero (trn_is_zero _ (num_lt4 hy) (trn_is_zero _ (trn_lt _ (num_lt4 hy)) h))
  · intro h
    have : num ys = 0 := by
      clear hy
      induction ys with
      | nil => rfl
      | cons c r ih =>
        rw [num, h c (List.mem_cons_self ..), ih (fun d hd => h d (List.mem_cons_of_mem _ hd))]
        rfl
    rw [this, trn_zero, trn_zero]

/-- A frame, so changed, is one just if the change is nothing. -/
theorem open_changed (b : List UInt8) (k : Nat) (ys : List UInt8) (m : Nat) (hy : ys.length ≤ 4) (hl : k + ys.length + m = b.length + 4) :
    (openF (xor2 (frameF b) (List.replicate k 0 ++ ys ++ List.replicate m 0))).isSome = decide (∀ c ∈ ys, c = 0) := by
  have hlen : (List.replicate k (0 : UInt8) ++ ys ++ List.replicate m 0).length = b.length + 4 := by simp; omega
  have hfl := frameF_length b
  have hx : (xor2 (frameF b) (List.replicate k 0 ++ ys ++ List.replicate m 0)).length = b.length + 4 := by
    unfold xor2; rw [List.length_zipWith, hfl, hlen]; omega
  rw [openF_run (by omega)]
  have hz := run_zip 4294967295 0 (frameF b) (List.replicate k 0 ++ ys ++ List.replicate m 0) (by omega)
  rw [Nat.xor_zero] at hz
  have hf : run 4294967295 (frameF b) = trn 32 4294967295 := (frame_run b _ rfl).1 rfl
  rw [hz, hf]
  have hc := run_change k ys m hy
  by_cases h : ∀ c ∈ ys, c = 0
  · rw [decide_eq_true h, hc.2 h, Nat.xor_zero, decide_eq_true rfl]
  · rw [decide_eq_false h, decide_eq_false]
    intro e
    apply h
    apply hc.1
    have := congrArg (fun q => trn 32 4294967295 ^^^ q) e
    simpa [← Nat.xor_assoc] using this

theorem xor2_zero (x : List UInt8) (ys : List UInt8) (h : x.length = ys.length) (hz : ∀ c ∈ ys, c = 0) : xor2 x ys = x := by
  induction x generalizing ys with
  | nil => simp [xor2]
  | cons c x ih =>
    match ys, h with
    | d :: ys, h =>
      have hd : d = 0 := hz d (List.mem_cons_self ..)
      subst hd
      have := ih ys (by simpa using h) (fun e he => hz e (List.mem_cons_of_mem _ he))
      simp only [xor2] at this ⊢
      rw [List.zipWith_cons_cons, this]
      simp

end Go.Proofs.YtgbaofdbdpopnaaDoor
