/- The document's own answers: records of a fixed number of pieces, written and read. -/
import Derived.Test.YtkjoojamkbpfcaaN8
import Derived.Test.YtkjoojamkbpfcaaF5
import Derived.Test.YtkjoojamkbpfcaaH3
namespace Go.Proofs.Ytkjoojamkbpfcaa
open Go.RowKit

theorem newY (w : World) (t : TypeId) : WAt (w.alloc (.cells #[.slice none 0 0, .bool false] t)) w.heap.size w.heap.size [] :=
  ⟨⟨none, 0, by simp, fun h => absurd h (by omega), Row.nil _ _⟩, by simp, by simp, by simp, by simp⟩

/-- The document's writer, and a box beside it. -/
structure YB (w : World) (p g b : Nat) (st : Option (List UInt8)) (cs : Array Value) (t : TypeId) : Prop where
  s : YSt w p g st
  x : Bx w b cs t
  np : b ≠ p
  ng : b ≠ g

theorem YB.next {w w' : World} {p g b : Nat} {st st' : Option (List UInt8)} {cs : Array Value} {t : TypeId} (h : YB w p g b st cs t) (k : YPuts p g st' w w') : ∃ g', YB w' p g' b st' cs t ∧ (g' = g ∨ w.heap.size ≤ g') ∧ Fr (fun k => k = p ∨ k = g) w w' := by
  obtain ⟨g', k1, k2, k3⟩ := k
  have := h.x.lt
  have := h.ng
  exact ⟨g', ⟨k1, h.x.frame k2 (by have := h.np; omega), h.np, by omega⟩, k3, k2⟩

theorem ybytes {w : World} {p g : Nat} {s : Option (List UInt8)} (h : YSt w p g s) (L : Nat) (hL : Most s L) (hf : L ≤ 140737488355328) : Calls Try.prog 52 #[.pointer (some ⟨p, 0, none⟩)] w (Wrote w (s.getD []) (codeOf s)) := by
  cases s with
  | some bs =>
    refine (ybytes_ok h (Nat.le_trans (hL bs rfl) hf)).mono ?_
    rintro e w' ⟨v, g', rfl, hr, hF, hg⟩
    obtain ⟨ao, cap, rfl, _⟩ := hr.shape
    exact ⟨ao, cap, g', rfl, hr, fun _ => hg, hF⟩
  | none =>
    refine (ybytes_bad h.1).mono ?_
    rintro e w' ⟨rfl, rfl⟩
    exact ⟨none, 0, 0, rfl, Row.nil _ _, fun h => absurd h (by omega), Fr.refl _ _⟩

theorem told_any {w : World} {p g : Nat} {s : Option (List UInt8)} (h : YSt w p g s) (L : Nat) (hL : Most s L) (hf : L ≤ 140737488355328) (ok : Bool) :
    Calls Try.prog 42 #[.pointer (some ⟨p, 0, none⟩), .bool ok] w (Wrote w (if ok then s.getD [] else []) (if ok then codeOf s else 80)) := by
  have R := hide (ybytes h L hL hf)
  clear h hL
  cases ok
  · simp only [Bool.false_eq_true, if_false]
    go_enter Try.func42, Try.ntmps42
    go_wp2
    go_ret2
    exact ⟨none, 0, 0, rfl, Row.nil _ _, fun h => absurd h (by omega), Fr.refl _ _⟩
  · simp only [if_true]
    generalize s.getD [] = bs at *
    generalize codeOf s = c at *
    go_enter Try.func42, Try.ntmps42
    go_wp2_with fail
    refine (unhide R).mono ?_
    rintro e w1 ⟨ao, cap, gb, rfl, h2⟩
    have H2 := hide h2
    clear h2 R
    go_wp2
    go_ret2
    exact ⟨ao, cap, gb, rfl, unhide H2⟩

/-- A fault's place is 0 where there is no fault. -/
def Clean (s : RS) : Prop := s.c = 0 → s.f = 0

theorem stepR_clean {s : RS} (h : Clean s) (z : Value) {o : Except Int (Value × Nat)} (ho : ∀ x, o = .error x → x ≠ 0) : Clean (stepR s z o).2 := by
  unfold stepR
  split
  · rename_i hc
    cases o with
    | ok va => exact fun _ => h hc
    | error x => exact fun hx => absurd hx (ho x rfl)
  · exact h

theorem kd_error (bs : List UInt8) (a : Nat) (k : Kd) (x : Int) (h : k.o bs a = .error x) : x ≠ 0 := by
  cases k <;> simp only [Kd.o, oNumber, oInt, oFloat, oBool, oFixed] at h
  · split at h
    · injection h with h; omega
    split at h
    · injection h with h; omega
    split at h
    · injection h with h; omega
    · cases h
  · split at h
    · injection h with h; omega
    · cases h
  · split at h
    · injection h with h; omega
    split at h
    · injection h with h; omega
    · cases h
  · split at h
    · injection h with h; omega
    split at h
    · injection h with h; omega
    · cases h
  · split at h
    · injection h with h; omega
    split at h
    · injection h with h; omega
    · cases h

theorem rd_clean {bs : List UInt8} {s : RS} (h : Clean s) (k : Kd) : Clean (k.rd bs s).2 := stepR_clean h _ (fun x hx => kd_error bs _ k x hx)
theorem rdL_clean {bs : List UInt8} (ks : List Kd) {s : RS} (h : Clean s) : Clean (rdL bs ks s).2 := by
  induction ks generalizing s with
  | nil => exact h
  | cons k ks ih => exact ih (rd_clean h k)
theorem count_error (bs : List UInt8) (a : Nat) (most : Int) (x : Int) (h : oCount bs a most = .error x) : x ≠ 0 := by
  unfold oCount at h
  split at h
  · injection h with h; omega
  split at h
  · injection h with h; omega
  split at h
  · injection h with h; omega
  · cases h
theorem rdN_clean {bs : List UInt8} (ks : List Kd) (n : Nat) {s : RS} (h : Clean s) : Clean (rdN bs ks n s).2 := by
  induction n generalizing s with
  | zero => exact h
  | succ n ih => exact ih (rdL_clean ks h)
theorem rdM_clean {bs : List UInt8} (most : Nat) (ks : List Kd) {s : RS} (h : Clean s) : Clean (rdM bs most ks s).2 := rdN_clean ks _ (stepR_clean h _ (fun x hx => count_error bs _ _ x hx))
theorem endR_clean {s : RS} (h : Clean s) (n : Nat) : Clean (endR s n) := by
  unfold endR
  split
  · intro hx; simp at hx
  · exact h
theorem clean0 : Clean s00 := fun _ => rfl

/-- The document's reader, and a box beside it. -/
structure XB (w : World) (p : Nat) (ao : Option Addr) (cap : Nat) (bs : List UInt8) (s : RS) (b : Nat) (cs : Array Value) (t : TypeId) : Prop where
  r : XAt w p ao cap bs s
  x : Bx w b cs t
  np : b ≠ p
  ng : ∀ b' off, ao = some ⟨b', off, none⟩ → 0 < bs.length → b ≠ b'

theorem XB.step {w w' : World} {p b : Nat} {ao : Option Addr} {cap : Nat} {bs : List UInt8} {s s' : RS} {cs : Array Value} {t : TypeId} (h : XB w p ao cap bs s b cs t) (hr : XAt w' p ao cap bs s') (hf : Fr (· = p) w w') (o : Nat) (v : Value) :
    XB (w'.setCell ⟨b, o, none⟩ v) p ao cap bs s' b (cs.setIfInBounds o v) t :=
  ⟨XAt.setOther hr h.np h.ng v, (h.x.frame hf h.np).setCell o v, h.np, h.ng⟩

/-- The fault behind the last piece. -/
def endF (z : RS) (ok : Bool) : Int × Int := if z.c = 0 ∧ ok = false then (80, -1) else (z.c, z.f)

set_option maxHeartbeats 1000000 in
theorem ended_any {w : World} {p : Nat} {ao : Option Addr} {cap : Nat} {bs : List UInt8} {s : RS} (h : XAt w p ao cap bs s) (ok : Bool) :
    Calls Try.prog 47 #[.pointer (some ⟨p, 0, none⟩), .bool ok] w fun e w' => e = .returned (.agg #[.int .i64 (endF (endR s bs.length) ok).1, .int .i64 (endF (endR s bs.length) ok).2]) ∧ Fr (· = p) w w' := by
  obtain ⟨z, Hz⟩ : ∃ z, Hid (endR s bs.length = z) := ⟨_, rfl⟩
  have R := hide (xEnd (h.alloc (.cells #[.int .i64 0, .int .i64 0] 31)))
  have hpl := h.lt
  rw [unhide Hz] at R ⊢
  generalize hF : endF z ok = F
  have HFF : Hid (F = if z.c = 0 ∧ ok = false then (80, -1) else (z.c, z.f)) := hide (by rw [← hF]; rfl)
  clear h Hz hF
  generalize z.c = c at *
  generalize z.f = f at *
  by_cases hc : c = 0
  · have hcb : (c == 0) = true := by simp [hc]
    cases ok
    · have HE : Hid (F = (80, -1)) := hide (by rw [unhide HFF, if_pos ⟨hc, rfl⟩])
      rw [unhide HE]
      clear hc HFF HE
      go_enter Try.func47, Try.ntmps47
      go_wp2_with fail
      refine (unhide R).mono ?_
      rintro e w1 ⟨rfl, hX, hF1⟩
      have e0 : w1.cell? ⟨w.heap.size, 0, none⟩ = some (.int .i64 0) := (hF1.cell (a := ⟨w.heap.size, 0, none⟩) (by simp) (by show ¬ w.heap.size = p; omega)).trans (by simp)
      have e1 : w1.cell? ⟨w.heap.size, 1, none⟩ = some (.int .i64 0) := (hF1.cell (a := ⟨w.heap.size, 1, none⟩) (by simp) (by show ¬ w.heap.size = p; omega)).trans (by simp)
      have f0 : w1.frozen? ⟨w.heap.size, 0, none⟩ = false := (hF1.frozen (a := ⟨w.heap.size, 0, none⟩) (by simp) (by show ¬ w.heap.size = p; omega)).trans (by simp)
      have f1 : w1.frozen? ⟨w.heap.size, 1, none⟩ = false := (hF1.frozen (a := ⟨w.heap.size, 1, none⟩) (by simp) (by show ¬ w.heap.size = p; omega)).trans (by simp)
      have hlt : w.heap.size < w1.heap.size := World.block_lt_of_cell? _ _ e0
      have HBX := hide ((Bx.new w #[.int .i64 0, .int .i64 0] 31).frame hF1 (by show ¬ w.heap.size = p; omega))
      have HF1 : Hid (Fr (· = p) w w1) := hide (((Fr.refl _ w).alloc _).trans hF1 (fun _ _ t => t))
      clear hX hF1 R
      go_wp2
      have hbx := (((unhide HBX).setCell 0 (.int .i64 80)).setCell 1 (.int .i64 (-1))).alloc (.cells #[.int .i64 c, .int .i64 f] 31)
      exact bodyPost_ret (v := .agg #[.int .i64 80, .int .i64 (-1)]) (results_cell_row rfl _ _ _ _ _ _ _ rfl hbx Try.underlying31 rfl (fault_size _ _)) rfl ⟨rfl, (((unhide HF1).setCell (p := ⟨w.heap.size, 0, none⟩) (fun h => absurd h (Nat.lt_irrefl _)) _).setCell (p := ⟨w.heap.size, 1, none⟩) (fun h => absurd h (Nat.lt_irrefl _)) _).alloc _⟩
    · have HE : Hid (F = (c, f)) := hide (by rw [unhide HFF, if_neg (by simp)])
      rw [unhide HE]
      clear hc HFF HE
      go_enter Try.func47, Try.ntmps47
      go_wp2_with fail
      refine (unhide R).mono ?_
      rintro e w1 ⟨rfl, hX, hF1⟩
      have e0 : w1.cell? ⟨w.heap.size, 0, none⟩ = some (.int .i64 0) := (hF1.cell (a := ⟨w.heap.size, 0, none⟩) (by simp) (by show ¬ w.heap.size = p; omega)).trans (by simp)
      have e1 : w1.cell? ⟨w.heap.size, 1, none⟩ = some (.int .i64 0) := (hF1.cell (a := ⟨w.heap.size, 1, none⟩) (by simp) (by show ¬ w.heap.size = p; omega)).trans (by simp)
      have f0 : w1.frozen? ⟨w.heap.size, 0, none⟩ = false := (hF1.frozen (a := ⟨w.heap.size, 0, none⟩) (by simp) (by show ¬ w.heap.size = p; omega)).trans (by simp)
      have f1 : w1.frozen? ⟨w.heap.size, 1, none⟩ = false := (hF1.frozen (a := ⟨w.heap.size, 1, none⟩) (by simp) (by show ¬ w.heap.size = p; omega)).trans (by simp)
      have hlt : w.heap.size < w1.heap.size := World.block_lt_of_cell? _ _ e0
      have HBX := hide ((Bx.new w #[.int .i64 0, .int .i64 0] 31).frame hF1 (by show ¬ w.heap.size = p; omega))
      have HF1 : Hid (Fr (· = p) w w1) := hide (((Fr.refl _ w).alloc _).trans hF1 (fun _ _ t => t))
      clear hX hF1 R
      go_wp2
      have hbx := (((unhide HBX).setCell 0 (.int .i64 c)).setCell 1 (.int .i64 f)).alloc (.cells #[.int .i64 c, .int .i64 f] 31)
      exact bodyPost_ret (v := .agg #[.int .i64 c, .int .i64 f]) (results_cell_row rfl _ _ _ _ _ _ _ rfl hbx Try.underlying31 rfl (fault_size _ _)) rfl ⟨rfl, (((unhide HF1).setCell (p := ⟨w.heap.size, 0, none⟩) (fun h => absurd h (Nat.lt_irrefl _)) _).setCell (p := ⟨w.heap.size, 1, none⟩) (fun h => absurd h (Nat.lt_irrefl _)) _).alloc _⟩
  · have hcb : (c == 0) = false := by simp [hc]
    have HE : Hid (F = (c, f)) := hide (by rw [unhide HFF, if_neg (fun h => hc h.1)])
    rw [unhide HE]
    clear hc HFF HE
    go_enter Try.func47, Try.ntmps47
    go_wp2_with fail
    refine (unhide R).mono ?_
    rintro e w1 ⟨rfl, hX, hF1⟩
    have e0 : w1.cell? ⟨w.heap.size, 0, none⟩ = some (.int .i64 0) := (hF1.cell (a := ⟨w.heap.size, 0, none⟩) (by simp) (by show ¬ w.heap.size = p; omega)).trans (by simp)
    have e1 : w1.cell? ⟨w.heap.size, 1, none⟩ = some (.int .i64 0) := (hF1.cell (a := ⟨w.heap.size, 1, none⟩) (by simp) (by show ¬ w.heap.size = p; omega)).trans (by simp)
    have f0 : w1.frozen? ⟨w.heap.size, 0, none⟩ = false := (hF1.frozen (a := ⟨w.heap.size, 0, none⟩) (by simp) (by show ¬ w.heap.size = p; omega)).trans (by simp)
    have f1 : w1.frozen? ⟨w.heap.size, 1, none⟩ = false := (hF1.frozen (a := ⟨w.heap.size, 1, none⟩) (by simp) (by show ¬ w.heap.size = p; omega)).trans (by simp)
    have hlt : w.heap.size < w1.heap.size := World.block_lt_of_cell? _ _ e0
    have HBX := hide ((Bx.new w #[.int .i64 0, .int .i64 0] 31).frame hF1 (by show ¬ w.heap.size = p; omega))
    have HF1 : Hid (Fr (· = p) w w1) := hide (((Fr.refl _ w).alloc _).trans hF1 (fun _ _ t => t))
    clear hX hF1 R
    go_wp2
    have hbx := (((unhide HBX).setCell 0 (.int .i64 c)).setCell 1 (.int .i64 f)).alloc (.cells #[.int .i64 c, .int .i64 f] 31)
    exact bodyPost_ret (v := .agg #[.int .i64 c, .int .i64 f]) (results_cell_row rfl _ _ _ _ _ _ _ rfl hbx Try.underlying31 rfl (fault_size _ _)) rfl ⟨rfl, (((unhide HF1).setCell (p := ⟨w.heap.size, 0, none⟩) (fun h => absurd h (Nat.lt_irrefl _)) _).setCell (p := ⟨w.heap.size, 1, none⟩) (fun h => absurd h (Nat.lt_irrefl _)) _).alloc _⟩

/-- Its numbers are numbers. -/
def tapFits (t : Tp) : Prop := t.dev ≤ 9223372036854775807 ∧ t.ctr ≤ 9223372036854775807 ∧ t.kind ≤ 9223372036854775807 ∧ t.place ≤ 9223372036854775807 ∧ t.time ≤ 9223372036854775807

set_option maxHeartbeats 1000000 in
theorem refTap_any (t : Tp) (hfits : tapFits t) (w : World) : Calls Try.prog 10 #[.agg (tpC t)] w (Wrote w (tapW t).1 (tapW t).2) := by
  have R := hide (TapRight_any t)
  obtain ⟨ok, Hok⟩ : ∃ b, Hid (tapOk t = b) := ⟨_, rfl⟩
  have HA1 : Hid ((tapW t).1 = if ok then (tapB t).getD [] else []) := hide (by unfold tapW; rw [unhide Hok]; cases ok <;> rfl)
  have HA2 : Hid ((tapW t).2 = if ok then codeOf (tapB t) else 80) := hide (by unfold tapW; rw [unhide Hok]; cases ok <;> rfl)
  have HBT : Hid (tapB t = wrL tapK (tpC t).toList) := hide rfl
  rw [unhide Hok] at R
  rw [unhide HA1, unhide HA2]
  generalize tapB t = X at HBT ⊢
  clear HA1 HA2 Hok
  unfold tpC at *
  unfold tapFits at hfits
  obtain ⟨dev, ctr, tok, kind, place, time⟩ := t
  simp only at R HBT hfits ⊢
  obtain ⟨h0, h1, h3, h4, h5⟩ := hfits
  have J0 := hide h0
  have J1 := hide h1
  have J3 := hide h3
  have J4 := hide h4
  have J5 := hide h5
  clear h0 h1 h3 h4 h5
  obtain ⟨F1, HF1⟩ : ∃ F, Hid (F = if ok then X.getD [] else []) := ⟨_, rfl⟩
  obtain ⟨F2, HF2⟩ : ∃ F, Hid (F = if ok then codeOf X else 80) := ⟨_, rfl⟩
  rw [← unhide HF1, ← unhide HF2]
  go_enter Try.func10, Try.ntmps10
  go_wp2_with fail
  have HB0 : Hid (YB ((w.alloc (.cells #[.int .i64 dev, .int .i64 ctr, .string tok, .int .i64 kind, .int .i64 place, .int .i64 time] 23)).alloc (.cells #[.slice none 0 0, .bool false] 76)) (w.heap.size + 1) (w.heap.size + 1) w.heap.size (some []) #[.int .i64 dev, .int .i64 ctr, .string tok, .int .i64 kind, .int .i64 place, .int .i64 time] 23) := hide (by
    have h := newY (w.alloc (.cells #[.int .i64 dev, .int .i64 ctr, .string tok, .int .i64 kind, .int .i64 place, .int .i64 time] 23)) 76
    rw [heap_alloc] at h
    exact ⟨h, (Bx.new _ _ _).alloc _, by omega, by omega⟩)
  have HF0 : Hid (Fr (fun _ => False) w ((w.alloc (.cells #[.int .i64 dev, .int .i64 ctr, .string tok, .int .i64 kind, .int .i64 place, .int .i64 time] 23)).alloc (.cells #[.slice none 0 0, .bool false] 76)) ∧ w.heap.size ≤ w.heap.size + 1 ∧ w.heap.size ≤ w.heap.size + 1) := hide ⟨((Fr.refl _ w).alloc _).alloc _, by omega, by omega⟩
  generalize (w.alloc (.cells #[.int .i64 dev, .int .i64 ctr, .string tok, .int .i64 kind, .int .i64 place, .int .i64 time] 23)).alloc (.cells #[.slice none 0 0, .bool false] 76) = w0 at *
  obtain ⟨p, Hp⟩ : ∃ p, Hid (w.heap.size + 1 = p) := ⟨_, rfl⟩
  obtain ⟨B, HBb⟩ : ∃ p, Hid (w.heap.size = p) := ⟨_, rfl⟩
  rw [unhide Hp, unhide HBb] at HB0 HF0 ⊢
  have HM0 : Hid (Most (some []) 0) := hide Most.nil
  have c0 : w0.cell? ⟨B, 0, none⟩ = some (.int .i64 dev) := (unhide HB0).x.cell 0
  go_wp2_with fail
  refine (yNumber (unhide HB0).s (fun bs e => by have := unhide HM0 bs e; omega) dev 2 (unhide J0)).mono ?_
  rintro e w1 ⟨rfl, hP⟩
  obtain ⟨g1, hB, hg, hF⟩ := (unhide HB0).next hP
  have HB1 := hide hB
  have HM1 := hide ((unhide HM0).step (Most.kd (Kd.num 2) (.int .i64 dev)))
  have HF1 : Hid (Fr (fun _ => False) w w1 ∧ w.heap.size ≤ p ∧ w.heap.size ≤ g1) := hide (by
    obtain ⟨q1, q2, q3⟩ := unhide HF0
    have := q1.size
    exact ⟨q1.trans hF (fun _ hi t => by rw [← unhide HBb] at *; omega), by rw [← unhide HBb] at *; omega, by rw [← unhide HBb] at *; omega⟩)
  clear hB hg hF hP c0 HB0 HF0
  have c1 : w1.cell? ⟨B, 1, none⟩ = some (.int .i64 ctr) := (unhide HB1).x.cell 1
  go_wp2_with fail
  refine (yNumber (unhide HB1).s (fun bs e => by have := unhide HM1 bs e; simp only [Kd.n] at this; omega) ctr 4 (unhide J1)).mono ?_
  rintro e w2 ⟨rfl, hP⟩
  obtain ⟨g2, hB, hg, hF⟩ := (unhide HB1).next hP
  have HB2 := hide hB
  have HM2 := hide ((unhide HM1).step (Most.kd (Kd.num 4) (.int .i64 ctr)))
  have HF2 : Hid (Fr (fun _ => False) w w2 ∧ w.heap.size ≤ p ∧ w.heap.size ≤ g2) := hide (by
    obtain ⟨q1, q2, q3⟩ := unhide HF1
    have := q1.size
    exact ⟨q1.trans hF (fun _ hi t => by rw [← unhide HBb] at *; omega), by rw [← unhide HBb] at *; omega, by rw [← unhide HBb] at *; omega⟩)
  clear hB hg hF hP c1 HB1 HF1
  have c2 : w2.cell? ⟨B, 2, none⟩ = some (.string tok) := (unhide HB2).x.cell 2
  go_wp2_with fail
  refine (yFixed (unhide HB2).s tok 8 (fun bs e _ => by have := unhide HM2 bs e; simp only [Kd.n] at this; omega)).mono ?_
  rintro e w3 ⟨rfl, hP⟩
  obtain ⟨g3, hB, hg, hF⟩ := (unhide HB2).next hP
  have HB3 := hide hB
  have HM3 := hide ((unhide HM2).step (Most.kd (Kd.fix 8) (.string tok)))
  have HF3 : Hid (Fr (fun _ => False) w w3 ∧ w.heap.size ≤ p ∧ w.heap.size ≤ g3) := hide (by
    obtain ⟨q1, q2, q3⟩ := unhide HF2
    have := q1.size
    exact ⟨q1.trans hF (fun _ hi t => by rw [← unhide HBb] at *; omega), by rw [← unhide HBb] at *; omega, by rw [← unhide HBb] at *; omega⟩)
  clear hB hg hF hP c2 HB2 HF2
  have c3 : w3.cell? ⟨B, 3, none⟩ = some (.int .i64 kind) := (unhide HB3).x.cell 3
  go_wp2_with fail
  refine (yNumber (unhide HB3).s (fun bs e => by have := unhide HM3 bs e; simp only [Kd.n] at this; omega) kind 1 (unhide J3)).mono ?_
  rintro e w4 ⟨rfl, hP⟩
  obtain ⟨g4, hB, hg, hF⟩ := (unhide HB3).next hP
  have HB4 := hide hB
  have HM4 := hide ((unhide HM3).step (Most.kd (Kd.num 1) (.int .i64 kind)))
  have HF4 : Hid (Fr (fun _ => False) w w4 ∧ w.heap.size ≤ p ∧ w.heap.size ≤ g4) := hide (by
    obtain ⟨q1, q2, q3⟩ := unhide HF3
    have := q1.size
    exact ⟨q1.trans hF (fun _ hi t => by rw [← unhide HBb] at *; omega), by rw [← unhide HBb] at *; omega, by rw [← unhide HBb] at *; omega⟩)
  clear hB hg hF hP c3 HB3 HF3
  have c4 : w4.cell? ⟨B, 4, none⟩ = some (.int .i64 place) := (unhide HB4).x.cell 4
  go_wp2_with fail
  refine (yNumber (unhide HB4).s (fun bs e => by have := unhide HM4 bs e; simp only [Kd.n] at this; omega) place 2 (unhide J4)).mono ?_
  rintro e w5 ⟨rfl, hP⟩
  obtain ⟨g5, hB, hg, hF⟩ := (unhide HB4).next hP
  have HB5 := hide hB
  have HM5 := hide ((unhide HM4).step (Most.kd (Kd.num 2) (.int .i64 place)))
  have HF5 : Hid (Fr (fun _ => False) w w5 ∧ w.heap.size ≤ p ∧ w.heap.size ≤ g5) := hide (by
    obtain ⟨q1, q2, q3⟩ := unhide HF4
    have := q1.size
    exact ⟨q1.trans hF (fun _ hi t => by rw [← unhide HBb] at *; omega), by rw [← unhide HBb] at *; omega, by rw [← unhide HBb] at *; omega⟩)
  clear hB hg hF hP c4 HB4 HF4
  have c5 : w5.cell? ⟨B, 5, none⟩ = some (.int .i64 time) := (unhide HB5).x.cell 5
  go_wp2_with fail
  refine (yNumber (unhide HB5).s (fun bs e => by have := unhide HM5 bs e; simp only [Kd.n] at this; omega) time 4 (unhide J5)).mono ?_
  rintro e w6 ⟨rfl, hP⟩
  obtain ⟨g6, hB, hg, hF⟩ := (unhide HB5).next hP
  have HB6 := hide hB
  have HM6 := hide ((unhide HM5).step (Most.kd (Kd.num 4) (.int .i64 time)))
  have HF6 : Hid (Fr (fun _ => False) w w6 ∧ w.heap.size ≤ p ∧ w.heap.size ≤ g6) := hide (by
    obtain ⟨q1, q2, q3⟩ := unhide HF5
    have := q1.size
    exact ⟨q1.trans hF (fun _ hi t => by rw [← unhide HBb] at *; omega), by rw [← unhide HBb] at *; omega, by rw [← unhide HBb] at *; omega⟩)
  clear hB hg hF hP c5 HB5 HF5
  have c0 : w6.cell? ⟨B, 0, none⟩ = some (.int .i64 dev) := (unhide HB6).x.cell 0
  have c1 : w6.cell? ⟨B, 1, none⟩ = some (.int .i64 ctr) := (unhide HB6).x.cell 1
  have c2 : w6.cell? ⟨B, 2, none⟩ = some (.string tok) := (unhide HB6).x.cell 2
  have c3 : w6.cell? ⟨B, 3, none⟩ = some (.int .i64 kind) := (unhide HB6).x.cell 3
  have c4 : w6.cell? ⟨B, 4, none⟩ = some (.int .i64 place) := (unhide HB6).x.cell 4
  have c5 : w6.cell? ⟨B, 5, none⟩ = some (.int .i64 time) := (unhide HB6).x.cell 5
  go_wp2_with fail
  refine (unhide R _).mono ?_
  rintro e w7 ⟨rfl, hF7⟩
  have HY := hide ((unhide HB6).s.frame hF7 (fun t => t) (fun t => t))
  have HFq : Hid (Fr (fun _ => False) w w7) := hide ((unhide HF6).1.trans hF7 (fun _ _ t => t))
  clear hF7 c0 c1 c2 c3 c4 c5
  go_wp2_with fail
  refine (told_any (unhide HY) _ (unhide HM6) (by simp only [Kd.n]; omega) ok).mono ?_
  have hXe : X = wrL tapK [.int .i64 dev, .int .i64 ctr, .string tok, .int .i64 kind, .int .i64 place, .int .i64 time] := unhide HBT
  have hXc : stepW (stepW (stepW (stepW (stepW (stepW (some []) (wNumber dev 2)) (wNumber ctr 4)) (wFixed tok 8)) (wNumber kind 1)) (wNumber place 2)) (wNumber time 4) = X := by rw [hXe, show stepW (stepW (stepW (stepW (stepW (stepW (some []) (wNumber dev 2)) (wNumber ctr 4)) (wFixed tok 8)) (wNumber kind 1)) (wNumber place 2)) (wNumber time 4) = stepW (stepW (stepW (stepW (stepW (stepW (some []) ((Kd.num 2).w (.int .i64 dev))) ((Kd.num 4).w (.int .i64 ctr))) ((Kd.fix 8).w (.string tok))) ((Kd.num 1).w (.int .i64 kind))) ((Kd.num 2).w (.int .i64 place))) ((Kd.num 4).w (.int .i64 time)) from rfl]; simp only [wrL, stepW_some, stepW_assoc, stepW_nil]
  rw [hXc, ← unhide HF1, ← unhide HF2]
  rintro e w9 hWr
  obtain ⟨ao, cap, gb, rfl, h2⟩ := Wrote.later (unhide HFq) hWr
  have H4 := hide h2
  clear hWr h2 hXe hXc
  go_wp2
  go_ret2
  exact ⟨ao, cap, gb, rfl, unhide H4⟩

/-- Its numbers are numbers. -/
def entryFits (t : En) : Prop := t.run ≤ 9223372036854775807

set_option maxHeartbeats 1000000 in
theorem refEntry_any (t : En) (hfits : entryFits t) (w : World) : Calls Try.prog 26 #[.agg (enC t)] w (Wrote w (entryW t).1 (entryW t).2) := by
  have R := hide (EntryRight_any t)
  obtain ⟨ok, Hok⟩ : ∃ b, Hid (entryOk t = b) := ⟨_, rfl⟩
  have HA1 : Hid ((entryW t).1 = if ok then (entryB t).getD [] else []) := hide (by unfold entryW; rw [unhide Hok]; cases ok <;> rfl)
  have HA2 : Hid ((entryW t).2 = if ok then codeOf (entryB t) else 80) := hide (by unfold entryW; rw [unhide Hok]; cases ok <;> rfl)
  have HBT : Hid (entryB t = wrL entryK (enC t).toList) := hide rfl
  rw [unhide Hok] at R
  rw [unhide HA1, unhide HA2]
  generalize entryB t = X at HBT ⊢
  clear HA1 HA2 Hok
  unfold enC at *
  unfold entryFits at hfits
  obtain ⟨run, tok, amount, paid⟩ := t
  simp only at R HBT hfits ⊢
  have h0 := hfits
  have J0 := hide h0
  clear h0 hfits
  obtain ⟨F1, HF1⟩ : ∃ F, Hid (F = if ok then X.getD [] else []) := ⟨_, rfl⟩
  obtain ⟨F2, HF2⟩ : ∃ F, Hid (F = if ok then codeOf X else 80) := ⟨_, rfl⟩
  rw [← unhide HF1, ← unhide HF2]
  go_enter Try.func26, Try.ntmps26
  go_wp2_with fail
  have HB0 : Hid (YB ((w.alloc (.cells #[.int .i64 run, .string tok, .int .i64 amount, .bool paid] 48)).alloc (.cells #[.slice none 0 0, .bool false] 76)) (w.heap.size + 1) (w.heap.size + 1) w.heap.size (some []) #[.int .i64 run, .string tok, .int .i64 amount, .bool paid] 48) := hide (by
    have h := newY (w.alloc (.cells #[.int .i64 run, .string tok, .int .i64 amount, .bool paid] 48)) 76
    rw [heap_alloc] at h
    exact ⟨h, (Bx.new _ _ _).alloc _, by omega, by omega⟩)
  have HF0 : Hid (Fr (fun _ => False) w ((w.alloc (.cells #[.int .i64 run, .string tok, .int .i64 amount, .bool paid] 48)).alloc (.cells #[.slice none 0 0, .bool false] 76)) ∧ w.heap.size ≤ w.heap.size + 1 ∧ w.heap.size ≤ w.heap.size + 1) := hide ⟨((Fr.refl _ w).alloc _).alloc _, by omega, by omega⟩
  generalize (w.alloc (.cells #[.int .i64 run, .string tok, .int .i64 amount, .bool paid] 48)).alloc (.cells #[.slice none 0 0, .bool false] 76) = w0 at *
  obtain ⟨p, Hp⟩ : ∃ p, Hid (w.heap.size + 1 = p) := ⟨_, rfl⟩
  obtain ⟨B, HBb⟩ : ∃ p, Hid (w.heap.size = p) := ⟨_, rfl⟩
  rw [unhide Hp, unhide HBb] at HB0 HF0 ⊢
  have HM0 : Hid (Most (some []) 0) := hide Most.nil
  have c0 : w0.cell? ⟨B, 0, none⟩ = some (.int .i64 run) := (unhide HB0).x.cell 0
  go_wp2_with fail
  refine (yNumber (unhide HB0).s (fun bs e => by have := unhide HM0 bs e; omega) run 4 (unhide J0)).mono ?_
  rintro e w1 ⟨rfl, hP⟩
  obtain ⟨g1, hB, hg, hF⟩ := (unhide HB0).next hP
  have HB1 := hide hB
  have HM1 := hide ((unhide HM0).step (Most.kd (Kd.num 4) (.int .i64 run)))
  have HF1 : Hid (Fr (fun _ => False) w w1 ∧ w.heap.size ≤ p ∧ w.heap.size ≤ g1) := hide (by
    obtain ⟨q1, q2, q3⟩ := unhide HF0
    have := q1.size
    exact ⟨q1.trans hF (fun _ hi t => by rw [← unhide HBb] at *; omega), by rw [← unhide HBb] at *; omega, by rw [← unhide HBb] at *; omega⟩)
  clear hB hg hF hP c0 HB0 HF0
  have c1 : w1.cell? ⟨B, 1, none⟩ = some (.string tok) := (unhide HB1).x.cell 1
  go_wp2_with fail
  refine (yFixed (unhide HB1).s tok 8 (fun bs e _ => by have := unhide HM1 bs e; simp only [Kd.n] at this; omega)).mono ?_
  rintro e w2 ⟨rfl, hP⟩
  obtain ⟨g2, hB, hg, hF⟩ := (unhide HB1).next hP
  have HB2 := hide hB
  have HM2 := hide ((unhide HM1).step (Most.kd (Kd.fix 8) (.string tok)))
  have HF2 : Hid (Fr (fun _ => False) w w2 ∧ w.heap.size ≤ p ∧ w.heap.size ≤ g2) := hide (by
    obtain ⟨q1, q2, q3⟩ := unhide HF1
    have := q1.size
    exact ⟨q1.trans hF (fun _ hi t => by rw [← unhide HBb] at *; omega), by rw [← unhide HBb] at *; omega, by rw [← unhide HBb] at *; omega⟩)
  clear hB hg hF hP c1 HB1 HF1
  have c2 : w2.cell? ⟨B, 2, none⟩ = some (.int .i64 amount) := (unhide HB2).x.cell 2
  go_wp2_with fail
  refine (yInt (unhide HB2).s (fun bs e => by have := unhide HM2 bs e; simp only [Kd.n] at this; omega) amount).mono ?_
  rintro e w3 ⟨rfl, hP⟩
  obtain ⟨g3, hB, hg, hF⟩ := (unhide HB2).next hP
  have HB3 := hide hB
  have HM3 := hide ((unhide HM2).step (Most.kd (Kd.int) (.int .i64 amount)))
  have HF3 : Hid (Fr (fun _ => False) w w3 ∧ w.heap.size ≤ p ∧ w.heap.size ≤ g3) := hide (by
    obtain ⟨q1, q2, q3⟩ := unhide HF2
    have := q1.size
    exact ⟨q1.trans hF (fun _ hi t => by rw [← unhide HBb] at *; omega), by rw [← unhide HBb] at *; omega, by rw [← unhide HBb] at *; omega⟩)
  clear hB hg hF hP c2 HB2 HF2
  have c3 : w3.cell? ⟨B, 3, none⟩ = some (.bool paid) := (unhide HB3).x.cell 3
  go_wp2_with fail
  refine (yBool (unhide HB3).s (fun bs e => by have := unhide HM3 bs e; simp only [Kd.n] at this; omega) paid).mono ?_
  rintro e w4 ⟨rfl, hP⟩
  obtain ⟨g4, hB, hg, hF⟩ := (unhide HB3).next hP
  have HB4 := hide hB
  have HM4 := hide ((unhide HM3).step (Most.kd (Kd.bool) (.bool paid)))
  have HF4 : Hid (Fr (fun _ => False) w w4 ∧ w.heap.size ≤ p ∧ w.heap.size ≤ g4) := hide (by
    obtain ⟨q1, q2, q3⟩ := unhide HF3
    have := q1.size
    exact ⟨q1.trans hF (fun _ hi t => by rw [← unhide HBb] at *; omega), by rw [← unhide HBb] at *; omega, by rw [← unhide HBb] at *; omega⟩)
  clear hB hg hF hP c3 HB3 HF3
  have c0 : w4.cell? ⟨B, 0, none⟩ = some (.int .i64 run) := (unhide HB4).x.cell 0
  have c1 : w4.cell? ⟨B, 1, none⟩ = some (.string tok) := (unhide HB4).x.cell 1
  have c2 : w4.cell? ⟨B, 2, none⟩ = some (.int .i64 amount) := (unhide HB4).x.cell 2
  have c3 : w4.cell? ⟨B, 3, none⟩ = some (.bool paid) := (unhide HB4).x.cell 3
  go_wp2_with fail
  refine (unhide R _).mono ?_
  rintro e w5 ⟨rfl, hF5⟩
  have HY := hide ((unhide HB4).s.frame hF5 (fun t => t) (fun t => t))
  have HFq : Hid (Fr (fun _ => False) w w5) := hide ((unhide HF4).1.trans hF5 (fun _ _ t => t))
  clear hF5 c0 c1 c2 c3
  go_wp2_with fail
  refine (told_any (unhide HY) _ (unhide HM4) (by simp only [Kd.n]; omega) ok).mono ?_
  have hXe : X = wrL entryK [.int .i64 run, .string tok, .int .i64 amount, .bool paid] := unhide HBT
  have hXc : stepW (stepW (stepW (stepW (some []) (wNumber run 4)) (wFixed tok 8)) (wInt amount)) (wBool paid) = X := by rw [hXe, show stepW (stepW (stepW (stepW (some []) (wNumber run 4)) (wFixed tok 8)) (wInt amount)) (wBool paid) = stepW (stepW (stepW (stepW (some []) ((Kd.num 4).w (.int .i64 run))) ((Kd.fix 8).w (.string tok))) ((Kd.int).w (.int .i64 amount))) ((Kd.bool).w (.bool paid)) from rfl]; simp only [wrL, stepW_some, stepW_assoc, stepW_nil]
  rw [hXc, ← unhide HF1, ← unhide HF2]
  rintro e w9 hWr
  obtain ⟨ao, cap, gb, rfl, h2⟩ := Wrote.later (unhide HFq) hWr
  have H4 := hide h2
  clear hWr h2 hXe hXc
  go_wp2
  go_ret2
  exact ⟨ao, cap, gb, rfl, unhide H4⟩

/-- Its numbers are numbers. -/
def accountFits (t : Ac) : Prop := t.charged ≤ 9223372036854775807 ∧ t.paid ≤ 9223372036854775807

set_option maxHeartbeats 1000000 in
theorem refAccount_any (t : Ac) (hfits : accountFits t) (w : World) : Calls Try.prog 27 #[.agg (acC t)] w (Wrote w (accountW t).1 (accountW t).2) := by
  have R := hide (AccountRight_any t)
  obtain ⟨ok, Hok⟩ : ∃ b, Hid (accountOk t = b) := ⟨_, rfl⟩
  have HA1 : Hid ((accountW t).1 = if ok then (accountB t).getD [] else []) := hide (by unfold accountW; rw [unhide Hok]; cases ok <;> rfl)
  have HA2 : Hid ((accountW t).2 = if ok then codeOf (accountB t) else 80) := hide (by unfold accountW; rw [unhide Hok]; cases ok <;> rfl)
  have HBT : Hid (accountB t = wrL accountK (acC t).toList) := hide rfl
  rw [unhide Hok] at R
  rw [unhide HA1, unhide HA2]
  generalize accountB t = X at HBT ⊢
  clear HA1 HA2 Hok
  unfold acC at *
  unfold accountFits at hfits
  obtain ⟨tok, charged, paid⟩ := t
  simp only at R HBT hfits ⊢
  obtain ⟨h1, h2⟩ := hfits
  have J1 := hide h1
  have J2 := hide h2
  clear h1 h2
  obtain ⟨F1, HF1⟩ : ∃ F, Hid (F = if ok then X.getD [] else []) := ⟨_, rfl⟩
  obtain ⟨F2, HF2⟩ : ∃ F, Hid (F = if ok then codeOf X else 80) := ⟨_, rfl⟩
  rw [← unhide HF1, ← unhide HF2]
  go_enter Try.func27, Try.ntmps27
  go_wp2_with fail
  have HB0 : Hid (YB ((w.alloc (.cells #[.string tok, .int .i64 charged, .int .i64 paid] 50)).alloc (.cells #[.slice none 0 0, .bool false] 76)) (w.heap.size + 1) (w.heap.size + 1) w.heap.size (some []) #[.string tok, .int .i64 charged, .int .i64 paid] 50) := hide (by
    have h := newY (w.alloc (.cells #[.string tok, .int .i64 charged, .int .i64 paid] 50)) 76
    rw [heap_alloc] at h
    exact ⟨h, (Bx.new _ _ _).alloc _, by omega, by omega⟩)
  have HF0 : Hid (Fr (fun _ => False) w ((w.alloc (.cells #[.string tok, .int .i64 charged, .int .i64 paid] 50)).alloc (.cells #[.slice none 0 0, .bool false] 76)) ∧ w.heap.size ≤ w.heap.size + 1 ∧ w.heap.size ≤ w.heap.size + 1) := hide ⟨((Fr.refl _ w).alloc _).alloc _, by omega, by omega⟩
  generalize (w.alloc (.cells #[.string tok, .int .i64 charged, .int .i64 paid] 50)).alloc (.cells #[.slice none 0 0, .bool false] 76) = w0 at *
  obtain ⟨p, Hp⟩ : ∃ p, Hid (w.heap.size + 1 = p) := ⟨_, rfl⟩
  obtain ⟨B, HBb⟩ : ∃ p, Hid (w.heap.size = p) := ⟨_, rfl⟩
  rw [unhide Hp, unhide HBb] at HB0 HF0 ⊢
  have HM0 : Hid (Most (some []) 0) := hide Most.nil
  have c0 : w0.cell? ⟨B, 0, none⟩ = some (.string tok) := (unhide HB0).x.cell 0
  go_wp2_with fail
  refine (yFixed (unhide HB0).s tok 8 (fun bs e _ => by have := unhide HM0 bs e; omega)).mono ?_
  rintro e w1 ⟨rfl, hP⟩
  obtain ⟨g1, hB, hg, hF⟩ := (unhide HB0).next hP
  have HB1 := hide hB
  have HM1 := hide ((unhide HM0).step (Most.kd (Kd.fix 8) (.string tok)))
  have HF1 : Hid (Fr (fun _ => False) w w1 ∧ w.heap.size ≤ p ∧ w.heap.size ≤ g1) := hide (by
    obtain ⟨q1, q2, q3⟩ := unhide HF0
    have := q1.size
    exact ⟨q1.trans hF (fun _ hi t => by rw [← unhide HBb] at *; omega), by rw [← unhide HBb] at *; omega, by rw [← unhide HBb] at *; omega⟩)
  clear hB hg hF hP c0 HB0 HF0
  have c1 : w1.cell? ⟨B, 1, none⟩ = some (.int .i64 charged) := (unhide HB1).x.cell 1
  go_wp2_with fail
  refine (yNumber (unhide HB1).s (fun bs e => by have := unhide HM1 bs e; simp only [Kd.n] at this; omega) charged 8 (unhide J1)).mono ?_
  rintro e w2 ⟨rfl, hP⟩
  obtain ⟨g2, hB, hg, hF⟩ := (unhide HB1).next hP
  have HB2 := hide hB
  have HM2 := hide ((unhide HM1).step (Most.kd (Kd.num 8) (.int .i64 charged)))
  have HF2 : Hid (Fr (fun _ => False) w w2 ∧ w.heap.size ≤ p ∧ w.heap.size ≤ g2) := hide (by
    obtain ⟨q1, q2, q3⟩ := unhide HF1
    have := q1.size
    exact ⟨q1.trans hF (fun _ hi t => by rw [← unhide HBb] at *; omega), by rw [← unhide HBb] at *; omega, by rw [← unhide HBb] at *; omega⟩)
  clear hB hg hF hP c1 HB1 HF1
  have c2 : w2.cell? ⟨B, 2, none⟩ = some (.int .i64 paid) := (unhide HB2).x.cell 2
  go_wp2_with fail
  refine (yNumber (unhide HB2).s (fun bs e => by have := unhide HM2 bs e; simp only [Kd.n] at this; omega) paid 8 (unhide J2)).mono ?_
  rintro e w3 ⟨rfl, hP⟩
  obtain ⟨g3, hB, hg, hF⟩ := (unhide HB2).next hP
  have HB3 := hide hB
  have HM3 := hide ((unhide HM2).step (Most.kd (Kd.num 8) (.int .i64 paid)))
  have HF3 : Hid (Fr (fun _ => False) w w3 ∧ w.heap.size ≤ p ∧ w.heap.size ≤ g3) := hide (by
    obtain ⟨q1, q2, q3⟩ := unhide HF2
    have := q1.size
    exact ⟨q1.trans hF (fun _ hi t => by rw [← unhide HBb] at *; omega), by rw [← unhide HBb] at *; omega, by rw [← unhide HBb] at *; omega⟩)
  clear hB hg hF hP c2 HB2 HF2
  have c0 : w3.cell? ⟨B, 0, none⟩ = some (.string tok) := (unhide HB3).x.cell 0
  have c1 : w3.cell? ⟨B, 1, none⟩ = some (.int .i64 charged) := (unhide HB3).x.cell 1
  have c2 : w3.cell? ⟨B, 2, none⟩ = some (.int .i64 paid) := (unhide HB3).x.cell 2
  go_wp2_with fail
  refine (unhide R _).mono ?_
  rintro e w4 ⟨rfl, hF4⟩
  have HY := hide ((unhide HB3).s.frame hF4 (fun t => t) (fun t => t))
  have HFq : Hid (Fr (fun _ => False) w w4) := hide ((unhide HF3).1.trans hF4 (fun _ _ t => t))
  clear hF4 c0 c1 c2
  go_wp2_with fail
  refine (told_any (unhide HY) _ (unhide HM3) (by simp only [Kd.n]; omega) ok).mono ?_
  have hXe : X = wrL accountK [.string tok, .int .i64 charged, .int .i64 paid] := unhide HBT
  have hXc : stepW (stepW (stepW (some []) (wFixed tok 8)) (wNumber charged 8)) (wNumber paid 8) = X := by rw [hXe, show stepW (stepW (stepW (some []) (wFixed tok 8)) (wNumber charged 8)) (wNumber paid 8) = stepW (stepW (stepW (some []) ((Kd.fix 8).w (.string tok))) ((Kd.num 8).w (.int .i64 charged))) ((Kd.num 8).w (.int .i64 paid)) from rfl]; simp only [wrL, stepW_some, stepW_assoc, stepW_nil]
  rw [hXc, ← unhide HF1, ← unhide HF2]
  rintro e w9 hWr
  obtain ⟨ao, cap, gb, rfl, h2⟩ := Wrote.later (unhide HFq) hWr
  have H4 := hide h2
  clear hWr h2 hXe hXc
  go_wp2
  go_ret2
  exact ⟨ao, cap, gb, rfl, unhide H4⟩

end Go.Proofs.Ytkjoojamkbpfcaa
