/- The walk of the law WireParts. -/
import Derived.Test.YtdbmojiplfkniaaM1
import Derived.Test.YtdbmojiplfkniaaD1
namespace Go.Proofs.Ytdbmojiplfkniaa
open Go.RowKit

/-- A row of bytes that Bytes gave, or nothing. -/
def Gave (w wr : World) (rb : Nat) (v : Value) (s : Option (List UInt8)) : Prop :=
  match s with
  | some bs => ∃ g, Row wr v g bs ∧ w.heap.size ≤ g ∧ g ≠ rb
  | none => v = .slice none 0 0

theorem Gave.stay {w wr wr' : World} {rb : Nat} {v : Value} {s : Option (List UInt8)} (h : Gave w wr rb v s) (hb : ∀ g, g ≠ rb → g < wr.heap.size → wr'.heap[g]? = wr.heap[g]?) : Gave w wr' rb v s := by
  cases s with
  | none => exact h
  | some bs =>
    obtain ⟨g, h1, h2, h3⟩ := h
    exact ⟨g, h1.stay (hb g h3), h2, h3⟩

/-- The law's three rows, so far. -/
structure Inv (w wr : World) (rb k : Nat) (ps : List Pc) (i : Int) : Prop where
  fr : Fr (fun _ => False) w wr
  rbw : w.heap.size ≤ rb
  rbl : rb < wr.heap.size
  cells : ∃ v0 v1 v2, wr.cell? ⟨rb, 0, none⟩ = some v0 ∧ wr.cell? ⟨rb, 1, none⟩ = some v1 ∧ wr.cell? ⟨rb, 2, none⟩ = some v2 ∧
    (0 < i → Gave w wr rb v0 (fold (part 0 k ps))) ∧ (1 < i → Gave w wr rb v1 (fold (part 1 k ps))) ∧ (2 < i → Gave w wr rb v2 (fold (part 2 k ps)))
  fz : ∀ j, j < 3 → wr.frozen? ⟨rb, j, none⟩ = false

/-- While the round's writer works all that was there stays. -/
theorem Inv.later {w wr wk : World} {rb k : Nat} {ps : List Pc} {i : Int} (h : Inv w wr rb k ps i) (hf : Fr (fun _ => False) wr wk) : Inv w wk rb k ps i := by
  obtain ⟨v0, v1, v2, h0, h1, h2, g0, g1, g2⟩ := h.cells
  have e : ∀ j v, wr.cell? ⟨rb, j, none⟩ = some v → wk.cell? ⟨rb, j, none⟩ = some v := fun j v hv => (hf.cell (a := ⟨rb, j, none⟩) h.rbl (fun t => t)).trans hv
  have hb : ∀ g, g ≠ rb → g < wr.heap.size → wk.heap[g]? = wr.heap[g]? := fun g _ hg => hf.block g hg (fun t => t)
  exact ⟨h.fr.trans hf (fun _ _ t => t), h.rbw, Nat.lt_of_lt_of_le h.rbl hf.size, ⟨v0, v1, v2, e _ _ h0, e _ _ h1, e _ _ h2, fun t => (g0 t).stay hb, fun t => (g1 t).stay hb, fun t => (g2 t).stay hb⟩,
    fun j hj => (hf.frozen (a := ⟨rb, j, none⟩) h.rbl (fun t => t)).trans (h.fz j hj)⟩

theorem Inv.frS {w wr : World} {rb k : Nat} {ps : List Pc} {i : Int} (h : Inv w wr rb k ps i) (j : Nat) (v : Value) : Fr (fun _ => False) w (wr.setCell ⟨rb, j, none⟩ v) :=
  h.fr.setCell (p := ⟨rb, j, none⟩) (fun hlt => by have := h.rbw; have h2 : rb < w.heap.size := hlt; omega) v

theorem Inv.put0 {w wr : World} {rb k : Nat} {ps : List Pc} (h : Inv w wr rb k ps 0) (v : Value) (hv : Gave w wr rb v (fold (part 0 k ps))) : Inv w (wr.setCell ⟨rb, 0, none⟩ v) rb k ps 1 := by
  obtain ⟨v0, v1, v2, h0, h1, h2, g0, g1, g2⟩ := h.cells
  have hb : ∀ g, g ≠ rb → g < wr.heap.size → (wr.setCell ⟨rb, 0, none⟩ v).heap[g]? = wr.heap[g]? := fun g hg _ => Below.heap_setCell _ _ _ _ hg
  exact ⟨h.frS 0 v, h.rbw, by rw [World.size_setCell]; exact h.rbl, ⟨v, v1, v2, World.cell?_setCell_same _ _ _ h0, (World.cell?_setCell_other _ _ _ _ (by simp)).trans h1, (World.cell?_setCell_other _ _ _ _ (by simp)).trans h2,
    fun _ => hv.stay hb, fun t => absurd t (by omega), fun t => absurd t (by omega)⟩, fun j hj => by rw [World.frozen?_setCell]; exact h.fz j hj⟩

theorem Inv.put1 {w wr : World} {rb k : Nat} {ps : List Pc} (h : Inv w wr rb k ps 1) (v : Value) (hv : Gave w wr rb v (fold (part 1 k ps))) : Inv w (wr.setCell ⟨rb, 1, none⟩ v) rb k ps 2 := by
  obtain ⟨v0, v1, v2, h0, h1, h2, g0, g1, g2⟩ := h.cells
  have hb : ∀ g, g ≠ rb → g < wr.heap.size → (wr.setCell ⟨rb, 1, none⟩ v).heap[g]? = wr.heap[g]? := fun g hg _ => Below.heap_setCell _ _ _ _ hg
  exact ⟨h.frS 1 v, h.rbw, by rw [World.size_setCell]; exact h.rbl, ⟨v0, v, v2, (World.cell?_setCell_other _ _ _ _ (by simp)).trans h0, World.cell?_setCell_same _ _ _ h1, (World.cell?_setCell_other _ _ _ _ (by simp)).trans h2,
    fun _ => (g0 (by omega)).stay hb, fun _ => hv.stay hb, fun t => absurd t (by omega)⟩, fun j hj => by rw [World.frozen?_setCell]; exact h.fz j hj⟩

theorem Inv.put2 {w wr : World} {rb k : Nat} {ps : List Pc} (h : Inv w wr rb k ps 2) (v : Value) (hv : Gave w wr rb v (fold (part 2 k ps))) : Inv w (wr.setCell ⟨rb, 2, none⟩ v) rb k ps 3 := by
  obtain ⟨v0, v1, v2, h0, h1, h2, g0, g1, g2⟩ := h.cells
  have hb : ∀ g, g ≠ rb → g < wr.heap.size → (wr.setCell ⟨rb, 2, none⟩ v).heap[g]? = wr.heap[g]? := fun g hg _ => Below.heap_setCell _ _ _ _ hg
  exact ⟨h.frS 2 v, h.rbw, by rw [World.size_setCell]; exact h.rbl, ⟨v0, v1, v, (World.cell?_setCell_other _ _ _ _ (by simp)).trans h0, (World.cell?_setCell_other _ _ _ _ (by simp)).trans h1, World.cell?_setCell_same _ _ _ h2,
    fun _ => (g0 (by omega)).stay hb, fun _ => (g1 (by omega)).stay hb, fun _ => hv.stay hb⟩, fun j hj => by rw [World.frozen?_setCell]; exact h.fz j hj⟩

theorem cat_bytes (a b : List UInt8) : ((⟨a.toArray⟩ : ByteArray) ++ (⟨b.toArray⟩ : ByteArray)) = ⟨(a ++ b).toArray⟩ := by apply ByteArray.ext; simp

theorem cat_list (a b : List UInt8) : ((⟨a.toArray⟩ : ByteArray) ++ (⟨b.toArray⟩ : ByteArray)).toList = a ++ b := by rw [cat_bytes]; simp [go_sem]

def badB (k : Nat) (ps : List Pc) (i : Int) : Bool := (decide (0 < i) && (fold (part 0 k ps)).isNone) || (decide (1 < i) && (fold (part 1 k ps)).isNone)

theorem inv_start (w w1 : World) (k : Nat) (ps : List Pc) (hf : Fr (fun _ => False) w w1) : Inv w (w1.alloc (.cells #[.slice none 0 0, .slice none 0 0, .slice none 0 0] 59)) w1.heap.size k ps 0 :=
  ⟨hf.alloc _, hf.size, by simp, ⟨_, _, _, by simp; rfl, by simp; rfl, by simp; rfl, fun t => absurd t (by omega), fun t => absurd t (by omega), fun t => absurd t (by omega)⟩, fun j _ => World.frozen?_alloc_new _ _ _ _⟩

theorem part_all (i : Int) (k : Nat) (ps : List Pc) (n : Nat) (h : ¬ n < ps.length) : part i k (ps.take n) = part i k ps := by rw [List.take_of_length_le (by omega)]

theorem part_start (i : Int) (k : Nat) (ps : List Pc) : fold (part i k (ps.take 0)) = some [] := by
  have : part i k (ps.take 0) = [] := List.eq_nil_of_length_eq_zero (by have := part_length i k (ps.take 0); simpa using this)
  rw [this]; rfl

set_option maxHeartbeats 4000000 in
set_option maxRecDepth 100000 in
theorem parts_walk0 (w : World) (lo : Option Addr) (lc : Nat) (ps : List Pc) (hL : LAt w lo ps) (hbd : ps.length ≤ 1048576) (cut : Int) (hc1 : -9223372036854775808 ≤ cut) (hc2 : cut ≤ 9223372036854775807) (hc : 0 ≤ cut) :
    Calls Try.prog 7 #[.slice lo ps.length lc, .int .i64 cut] w fun e w' => e = .returned (.bool true) ∧ Fr (fun _ => False) w w' := by
  have hcb : decide (cut < 0) = false := by simp; omega
  have HL := hide hL
  clear hL
  go_enter Try.func7, Try.ntmps7
  go_wp2_with fail
  refine (awake_any _).mono ?_
  rintro e w1 ⟨rfl, hF1⟩
  have HF1 := hide hF1
  clear hF1
  go_wp2_with fail
  obtain ⟨k, hk⟩ : ∃ k : Nat, cut % (↑ps.length + 1) = k := ⟨(cut % (↑ps.length + 1)).toNat, (Int.toNat_of_nonneg (Int.emod_nonneg _ (by omega))).symm⟩
  rw [hk]
  have hkb : (k : Int) ≤ 9223372036854775807 := by have := Int.emod_lt_of_pos (cut) (show (0 : Int) < ↑ps.length + 1 by omega); omega
  clear hk
  have HI := hide (inv_start w w1 k ps (unhide HF1))
  obtain ⟨rb, hrb⟩ : ∃ rb, w1.heap.size = rb := ⟨_, rfl⟩
  rw [hrb] at HI ⊢
  clear hrb HF1
  go_loopw [8, 9] (fun bv iv wr => ∃ i : Int, 0 ≤ i ∧ i ≤ 3 ∧ iv = .int .i64 i ∧ bv = .bool (badB k ps i) ∧ Hid (Inv w wr rb k ps i)) (fun _ iv _ => (3 - intOf iv).toNat)
  case atStart => exact ⟨0, by omega, by omega, rfl, rfl, HI⟩
  case round =>
    obtain ⟨i, hi0, hi3, rfl, rfl, HV⟩ := hrel
    have hi : i = 0 ∨ i = 1 ∨ i = 2 ∨ i = 3 := by omega
    clear hi0 hi3
    rcases hi with rfl | rfl | rfl | rfl
    · go_wp2_with fail
      refine (newwriter_any _).mono ?_
      rintro e wn ⟨rfl, rfl⟩
      have HN := hide (WOwn.new wr)
      generalize (wr.alloc (.cells #[.slice none 0 0, .bool false] 68)) = wn at HN ⊢
      generalize wr.heap.size = p at HN ⊢
      go_wp2
      go_loopw [11] (fun nv wk => ∃ n : Nat, n ≤ ps.length ∧ nv = .int .i64 n ∧ ∃ g st, Hid (WOwn wr wk p g st ∧ st = fold (part 0 k (ps.take n)))) (fun nv _ => ps.length - (intOf nv).toNat)
      case atStart => exact ⟨0, Nat.zero_le _, rfl, p, some [], unhide HN, (part_start 0 k ps).symm⟩
      case round =>
        obtain ⟨n, hn, rfl, g, st, HS⟩ := hrel
        by_cases hlt : n < ps.length
        · obtain ⟨b, off, rfl⟩ : ∃ b off, lo = some ⟨b, off, none⟩ := by
            obtain ⟨b, off, e, _⟩ := (unhide HL).1 (by omega)
            exact ⟨b, off, e⟩
          obtain ⟨q0, q1, q2, q3, q4, q5⟩ := (unhide HL).cells ((unhide HV).fr.trans (unhide HS).1.1 (fun _ _ t => t)) n hlt
          have hqn := (unhide HL).2.2 ps[n] (List.getElem_mem hlt)
          obtain ⟨q, Hq⟩ : ∃ q, Hid (ps[n] = q) := ⟨ps[n], hide rfl⟩
          rw [unhide Hq] at q0 q1 q2 q3 q4 q5 hqn
          by_cases hnk : n < k
          · have hnkb : decide ((n : Int) < (k : Int)) = true := by simp; omega
            go_wp2_with fail
            refine (lput_any (unhide HS).1.2.2.2 (fun bs h => by have := fold_le _ bs (by rw [← (unhide HS).2]; exact h); have h2 := part_length 0 k (ps.take n); rw [List.length_take] at h2; have h3 : 65537 * (part 0 k (List.take n ps)).length ≤ 65537 * 1048576 := Nat.mul_le_mul_left _ (by omega); omega) q hqn).mono ?_
            rintro e wk2 ⟨rfl, hP⟩
            obtain ⟨g', hW⟩ := (unhide HS).1.next hP
            have HW := hide hW
            clear hP hW q0 q1 q2 q3 q4 q5
            go_wp2
            exact ⟨⟨n + 1, by omega, by go_num, g', _, unhide HW, by rw [part0_lt ps k n hlt hnk, fold_snoc, ← (unhide HS).2, unhide Hq]⟩, by simp [intOf]; omega⟩
          · have hnkb : decide ((n : Int) < (k : Int)) = false := by simp; omega
            go_wp2
            exact ⟨⟨n + 1, by omega, by go_num, g, st, (unhide HS).1, by rw [part0_ge ps k n hlt hnk]; exact (unhide HS).2⟩, by simp [intOf]; omega⟩
        · go_wp2_with fail
          have hst := (unhide HS).2
          rw [part_all _ _ _ _ hlt] at hst
          have hV2 := (unhide HV).later (unhide HS).1.1
          have hrbl := hV2.rbl
          have hrbw := hV2.rbw
          have hws := hV2.fr.size
          cases st with
          | some bs =>
            have hlen : bs.length ≤ 140737488355328 := by
              have h1 := fold_le _ bs hst.symm
              have h2 := part_length 0 k ps
              have h3 : 65537 * (part 0 k ps).length ≤ 65537 * 1048576 := Nat.mul_le_mul_left _ (by omega)
              omega
            refine (bytes_ok (unhide HS).1.2.2.2 hlen).mono ?_
            rintro e w2 ⟨v, g', rfl, hrow, hF, hg⟩
            have hV3 := hV2.later hF
            obtain ⟨ao, cap, rfl, _⟩ := hrow.shape
            have hgave : Gave w w2 rb (.slice ao bs.length cap) (fold (part 0 k ps)) := by rw [← hst]; exact ⟨g', hrow, by omega, by omega⟩
            have HX := hide (hV3.put0 _ hgave)
            obtain ⟨v0, v1, v2, c0, c1, c2, _⟩ := hV3.cells
            have f0 := hV3.fz 0 (by omega)
            have HT := hide hst
            clear hst hV2 hV3 hgave hrow hF hg hlen HS HV HN HI
            have hb0 : badB k ps 0 = false := by simp [badB]
            go_wp2
            exact ⟨⟨1, by omega, by omega, rfl, by simp [badB, ← (unhide HT)], HX⟩, by simp [intOf]⟩
          | none =>
            refine (bytes_bad (unhide HS).1.2.2.2).mono ?_
            rintro e w2 ⟨rfl, rfl⟩
            have HX := hide (hV2.put0 (.slice none 0 0) (by rw [← hst]; rfl))
            obtain ⟨v0, v1, v2, c0, c1, c2, _⟩ := hV2.cells
            have f0 := hV2.fz 0 (by omega)
            have HT := hide hst
            clear hst hV2 HS HV HN HI
            have hb0 : badB k ps 0 = false := by simp [badB]
            go_wp2
            exact ⟨⟨1, by omega, by omega, rfl, by simp [badB, ← (unhide HT)], HX⟩, by simp [intOf]⟩

    · go_wp2_with fail
      refine (newwriter_any _).mono ?_
      rintro e wn ⟨rfl, rfl⟩
      have HN := hide (WOwn.new wr)
      generalize (wr.alloc (.cells #[.slice none 0 0, .bool false] 68)) = wn at HN ⊢
      generalize wr.heap.size = p at HN ⊢
      go_wp2
      go_loopw [11] (fun nv wk => ∃ n : Nat, n ≤ ps.length ∧ nv = .int .i64 n ∧ ∃ g st, Hid (WOwn wr wk p g st ∧ st = fold (part 1 k (ps.take n)))) (fun nv _ => ps.length - (intOf nv).toNat)
      case atStart => exact ⟨0, Nat.zero_le _, rfl, p, some [], unhide HN, (part_start 1 k ps).symm⟩
      case round =>
        obtain ⟨n, hn, rfl, g, st, HS⟩ := hrel
        by_cases hlt : n < ps.length
        · obtain ⟨b, off, rfl⟩ : ∃ b off, lo = some ⟨b, off, none⟩ := by
            obtain ⟨b, off, e, _⟩ := (unhide HL).1 (by omega)
            exact ⟨b, off, e⟩
          obtain ⟨q0, q1, q2, q3, q4, q5⟩ := (unhide HL).cells ((unhide HV).fr.trans (unhide HS).1.1 (fun _ _ t => t)) n hlt
          have hqn := (unhide HL).2.2 ps[n] (List.getElem_mem hlt)
          obtain ⟨q, Hq⟩ : ∃ q, Hid (ps[n] = q) := ⟨ps[n], hide rfl⟩
          rw [unhide Hq] at q0 q1 q2 q3 q4 q5 hqn
          by_cases hnk : n < k
          · have hnkb : decide ((n : Int) < (k : Int)) = true := by simp; omega
            go_wp2
            exact ⟨⟨n + 1, by omega, by go_num, g, st, (unhide HS).1, by rw [part1_lt ps k n hlt hnk]; exact (unhide HS).2⟩, by simp [intOf]; omega⟩
          · have hnkb : decide ((n : Int) < (k : Int)) = false := by simp; omega
            go_wp2_with fail
            refine (lput_any (unhide HS).1.2.2.2 (fun bs h => by have := fold_le _ bs (by rw [← (unhide HS).2]; exact h); have h2 := part_length 1 k (ps.take n); rw [List.length_take] at h2; have h3 : 65537 * (part 1 k (List.take n ps)).length ≤ 65537 * 1048576 := Nat.mul_le_mul_left _ (by omega); omega) q hqn).mono ?_
            rintro e wk2 ⟨rfl, hP⟩
            obtain ⟨g', hW⟩ := (unhide HS).1.next hP
            have HW := hide hW
            clear hP hW q0 q1 q2 q3 q4 q5
            go_wp2
            exact ⟨⟨n + 1, by omega, by go_num, g', _, unhide HW, by rw [part1_ge ps k n hlt hnk, fold_snoc, ← (unhide HS).2, unhide Hq]⟩, by simp [intOf]; omega⟩
        · go_wp2_with fail
          have hst := (unhide HS).2
          rw [part_all _ _ _ _ hlt] at hst
          have hV2 := (unhide HV).later (unhide HS).1.1
          have hrbl := hV2.rbl
          have hrbw := hV2.rbw
          have hws := hV2.fr.size
          cases st with
          | some bs =>
            have hlen : bs.length ≤ 140737488355328 := by
              have h1 := fold_le _ bs hst.symm
              have h2 := part_length 1 k ps
              have h3 : 65537 * (part 1 k ps).length ≤ 65537 * 1048576 := Nat.mul_le_mul_left _ (by omega)
              omega
            refine (bytes_ok (unhide HS).1.2.2.2 hlen).mono ?_
            rintro e w2 ⟨v, g', rfl, hrow, hF, hg⟩
            have hV3 := hV2.later hF
            obtain ⟨ao, cap, rfl, _⟩ := hrow.shape
            have hgave : Gave w w2 rb (.slice ao bs.length cap) (fold (part 1 k ps)) := by rw [← hst]; exact ⟨g', hrow, by omega, by omega⟩
            have HX := hide (hV3.put1 _ hgave)
            obtain ⟨v0, v1, v2, c0, c1, c2, _⟩ := hV3.cells
            have f0 := hV3.fz 1 (by omega)
            have HT := hide hst
            clear hst hV2 hV3 hgave hrow hF hg hlen HS HV HN HI
            rcases hbv : badB k ps 1 with _ | _
            · go_wp2
              exact ⟨⟨2, by omega, by omega, rfl, by have h0 : (fold (part 0 k ps)).isNone = false := by simpa [badB] using hbv
                                                     simp [badB, ← (unhide HT), h0], HX⟩, by simp [intOf]⟩
            · go_wp2
              exact ⟨⟨2, by omega, by omega, rfl, by have h0 : (fold (part 0 k ps)).isNone = true := by simpa [badB] using hbv
                                                     simp [badB, h0], HX⟩, by simp [intOf]⟩
          | none =>
            refine (bytes_bad (unhide HS).1.2.2.2).mono ?_
            rintro e w2 ⟨rfl, rfl⟩
            have HX := hide (hV2.put1 (.slice none 0 0) (by rw [← hst]; rfl))
            obtain ⟨v0, v1, v2, c0, c1, c2, _⟩ := hV2.cells
            have f0 := hV2.fz 1 (by omega)
            have HT := hide hst
            clear hst hV2 HS HV HN HI
            rcases hbv : badB k ps 1 with _ | _
            · go_wp2
              exact ⟨⟨2, by omega, by omega, rfl, by have h0 : (fold (part 0 k ps)).isNone = false := by simpa [badB] using hbv
                                                     simp [badB, ← (unhide HT), h0], HX⟩, by simp [intOf]⟩
            · go_wp2
              exact ⟨⟨2, by omega, by omega, rfl, by have h0 : (fold (part 0 k ps)).isNone = true := by simpa [badB] using hbv
                                                     simp [badB, h0], HX⟩, by simp [intOf]⟩

    · go_wp2_with fail
      refine (newwriter_any _).mono ?_
      rintro e wn ⟨rfl, rfl⟩
      have HN := hide (WOwn.new wr)
      generalize (wr.alloc (.cells #[.slice none 0 0, .bool false] 68)) = wn at HN ⊢
      generalize wr.heap.size = p at HN ⊢
      go_wp2
      go_loopw [11] (fun nv wk => ∃ n : Nat, n ≤ ps.length ∧ nv = .int .i64 n ∧ ∃ g st, Hid (WOwn wr wk p g st ∧ st = fold (part 2 k (ps.take n)))) (fun nv _ => ps.length - (intOf nv).toNat)
      case atStart => exact ⟨0, Nat.zero_le _, rfl, p, some [], unhide HN, (part_start 2 k ps).symm⟩
      case round =>
        obtain ⟨n, hn, rfl, g, st, HS⟩ := hrel
        by_cases hlt : n < ps.length
        · obtain ⟨b, off, rfl⟩ : ∃ b off, lo = some ⟨b, off, none⟩ := by
            obtain ⟨b, off, e, _⟩ := (unhide HL).1 (by omega)
            exact ⟨b, off, e⟩
          obtain ⟨q0, q1, q2, q3, q4, q5⟩ := (unhide HL).cells ((unhide HV).fr.trans (unhide HS).1.1 (fun _ _ t => t)) n hlt
          have hqn := (unhide HL).2.2 ps[n] (List.getElem_mem hlt)
          obtain ⟨q, Hq⟩ : ∃ q, Hid (ps[n] = q) := ⟨ps[n], hide rfl⟩
          rw [unhide Hq] at q0 q1 q2 q3 q4 q5 hqn
          go_wp2_with fail
          refine (lput_any (unhide HS).1.2.2.2 (fun bs h => by have := fold_le _ bs (by rw [← (unhide HS).2]; exact h); have h2 := part_length 2 k (ps.take n); rw [List.length_take] at h2; have h3 : 65537 * (part 2 k (List.take n ps)).length ≤ 65537 * 1048576 := Nat.mul_le_mul_left _ (by omega); omega) q hqn).mono ?_
          rintro e wk2 ⟨rfl, hP⟩
          obtain ⟨g', hW⟩ := (unhide HS).1.next hP
          have HW := hide hW
          clear hP hW q0 q1 q2 q3 q4 q5
          go_wp2
          exact ⟨⟨n + 1, by omega, by go_num, g', _, unhide HW, by rw [part2 ps k n hlt, fold_snoc, ← (unhide HS).2, unhide Hq]⟩, by simp [intOf]; omega⟩
        · go_wp2_with fail
          have hst := (unhide HS).2
          rw [part_all _ _ _ _ hlt] at hst
          have hV2 := (unhide HV).later (unhide HS).1.1
          have hrbl := hV2.rbl
          have hrbw := hV2.rbw
          have hws := hV2.fr.size
          cases st with
          | some bs =>
            have hlen : bs.length ≤ 140737488355328 := by
              have h1 := fold_le _ bs hst.symm
              have h2 := part_length 2 k ps
              have h3 : 65537 * (part 2 k ps).length ≤ 65537 * 1048576 := Nat.mul_le_mul_left _ (by omega)
              omega
            refine (bytes_ok (unhide HS).1.2.2.2 hlen).mono ?_
            rintro e w2 ⟨v, g', rfl, hrow, hF, hg⟩
            have hV3 := hV2.later hF
            obtain ⟨ao, cap, rfl, _⟩ := hrow.shape
            have hgave : Gave w w2 rb (.slice ao bs.length cap) (fold (part 2 k ps)) := by rw [← hst]; exact ⟨g', hrow, by omega, by omega⟩
            have HX := hide (hV3.put2 _ hgave)
            obtain ⟨v0, v1, v2, c0, c1, c2, _⟩ := hV3.cells
            have f0 := hV3.fz 2 (by omega)
            have HT := hide hst
            clear hst hV2 hV3 hgave hrow hF hg hlen HS HV HN HI
            have hj := parts_join ps k
            rw [← unhide HT] at hj
            have hb2 : badB k ps 2 = false := by
              cases e0 : fold (part 0 k ps) with
              | none => rw [e0, stepW_none] at hj; cases hj
              | some a =>
                cases e1 : fold (part 1 k ps) with
                | none => rw [e0, e1] at hj; cases hj
                | some b => simp [badB, e0, e1]
            clear hj
            go_wp2
            exact ⟨⟨3, by omega, by omega, rfl, by rw [← hb2]; simp [badB], HX⟩, by simp [intOf]⟩
          | none =>
            refine (bytes_bad (unhide HS).1.2.2.2).mono ?_
            rintro e w2 ⟨rfl, rfl⟩
            have HX := hide (hV2.put2 (.slice none 0 0) (by rw [← hst]; rfl))
            obtain ⟨v0, v1, v2, c0, c1, c2, _⟩ := hV2.cells
            have f0 := hV2.fz 2 (by omega)
            have HT := hide hst
            clear hst hV2 HS HV HN HI
            have hj := parts_join ps k
            rw [← unhide HT] at hj
            have hb2 : badB k ps 2 = true := by
              cases e0 : fold (part 0 k ps) with
              | none => simp [badB, e0]
              | some a =>
                cases e1 : fold (part 1 k ps) with
                | none => simp [badB, e0, e1]
                | some b => rw [e0, e1] at hj; cases hj
            clear hj
            go_wp2
            exact ⟨⟨3, by omega, by omega, rfl, by rw [← hb2]; simp [badB], HX⟩, by simp [intOf]⟩

    · rcases hb3 : badB k ps 3 with _ | _
      · obtain ⟨v0, v1, v2, c0, c1, c2, g0, g1, g2⟩ := (unhide HV).cells
        have g0 := g0 (by omega)
        have g1 := g1 (by omega)
        have g2 := g2 (by omega)
        have hj := parts_join ps k
        cases e0 : fold (part 0 k ps) with
        | none => simp [badB, e0] at hb3
        | some a =>
          cases e1 : fold (part 1 k ps) with
          | none => simp [badB, e1] at hb3
          | some b =>
            have hla : a.length ≤ 100000000000 := by
              have h1 := fold_le _ a e0
              have h2 := part_length 0 k ps
              have h3 : 65537 * (part 0 k ps).length ≤ 65537 * 1048576 := Nat.mul_le_mul_left _ (by omega)
              omega
            have hlb : b.length ≤ 100000000000 := by
              have h1 := fold_le _ b e1
              have h2 := part_length 1 k ps
              have h3 : 65537 * (part 1 k ps).length ≤ 65537 * 1048576 := Nat.mul_le_mul_left _ (by omega)
              omega
            rw [e0, e1] at hj
            rw [e0] at g0
            rw [e1] at g1
            rw [hj] at g2
            obtain ⟨h0, r0, _, _⟩ := g0
            obtain ⟨h1, r1, _, _⟩ := g1
            obtain ⟨h2, r2, _, _⟩ := g2
            have cv0 := conv_own r0
            have cv1 := conv_own r1
            have cv2 := conv_own r2
            have HFr := hide (unhide HV).fr
            clear g0 g1 g2 hj e0 e1 r0 r1 r2 HV HI
            go_wp2
            go_ret
            exact ⟨by rw [cat_list]; simp, unhide HFr⟩
      · go_wp2
        go_ret
        exact ⟨rfl, (unhide HV).fr⟩

set_option maxHeartbeats 4000000 in
set_option maxRecDepth 100000 in
theorem parts_walk1 (w : World) (lo : Option Addr) (lc : Nat) (ps : List Pc) (hL : LAt w lo ps) (hbd : ps.length ≤ 1048576) (cut : Int) (hc1 : -9223372036854775808 ≤ cut) (hc2 : cut ≤ 9223372036854775807) (hc : cut < 0) :
    Calls Try.prog 7 #[.slice lo ps.length lc, .int .i64 cut] w fun e w' => e = .returned (.bool true) ∧ Fr (fun _ => False) w w' := by
  have hcb : decide (cut < 0) = true := by simp; omega
  have HL := hide hL
  clear hL
  go_enter Try.func7, Try.ntmps7
  go_wp2_with fail
  refine (awake_any _).mono ?_
  rintro e w1 ⟨rfl, hF1⟩
  have HF1 := hide hF1
  clear hF1
  go_wp2_with fail
  have hke : -((cut + 1).tmod (↑ps.length + 1)) = (-(cut + 1)) % (↑ps.length + 1) := by rw [← Int.neg_tmod, Int.tmod_eq_emod_of_nonneg (by omega)]
  obtain ⟨k, hk⟩ : ∃ k : Nat, -((cut + 1).tmod (↑ps.length + 1)) = k := ⟨((-(cut + 1)) % (↑ps.length + 1)).toNat, by rw [hke]; exact (Int.toNat_of_nonneg (Int.emod_nonneg _ (by omega))).symm⟩
  rw [hk]
  have hkb : (k : Int) ≤ 9223372036854775807 := by rw [hke] at hk; have := Int.emod_lt_of_pos (-(cut + 1)) (show (0 : Int) < ↑ps.length + 1 by omega); omega
  clear hke
  clear hk
  have HI := hide (inv_start w w1 k ps (unhide HF1))
  obtain ⟨rb, hrb⟩ : ∃ rb, w1.heap.size = rb := ⟨_, rfl⟩
  rw [hrb] at HI ⊢
  clear hrb HF1
  go_loopw [8, 9] (fun bv iv wr => ∃ i : Int, 0 ≤ i ∧ i ≤ 3 ∧ iv = .int .i64 i ∧ bv = .bool (badB k ps i) ∧ Hid (Inv w wr rb k ps i)) (fun _ iv _ => (3 - intOf iv).toNat)
  case atStart => exact ⟨0, by omega, by omega, rfl, rfl, HI⟩
  case round =>
    obtain ⟨i, hi0, hi3, rfl, rfl, HV⟩ := hrel
    have hi : i = 0 ∨ i = 1 ∨ i = 2 ∨ i = 3 := by omega
    clear hi0 hi3
    rcases hi with rfl | rfl | rfl | rfl
    · go_wp2_with fail
      refine (newwriter_any _).mono ?_
      rintro e wn ⟨rfl, rfl⟩
      have HN := hide (WOwn.new wr)
      generalize (wr.alloc (.cells #[.slice none 0 0, .bool false] 68)) = wn at HN ⊢
      generalize wr.heap.size = p at HN ⊢
      go_wp2
      go_loopw [11] (fun nv wk => ∃ n : Nat, n ≤ ps.length ∧ nv = .int .i64 n ∧ ∃ g st, Hid (WOwn wr wk p g st ∧ st = fold (part 0 k (ps.take n)))) (fun nv _ => ps.length - (intOf nv).toNat)
      case atStart => exact ⟨0, Nat.zero_le _, rfl, p, some [], unhide HN, (part_start 0 k ps).symm⟩
      case round =>
        obtain ⟨n, hn, rfl, g, st, HS⟩ := hrel
        by_cases hlt : n < ps.length
        · obtain ⟨b, off, rfl⟩ : ∃ b off, lo = some ⟨b, off, none⟩ := by
            obtain ⟨b, off, e, _⟩ := (unhide HL).1 (by omega)
            exact ⟨b, off, e⟩
          obtain ⟨q0, q1, q2, q3, q4, q5⟩ := (unhide HL).cells ((unhide HV).fr.trans (unhide HS).1.1 (fun _ _ t => t)) n hlt
          have hqn := (unhide HL).2.2 ps[n] (List.getElem_mem hlt)
          obtain ⟨q, Hq⟩ : ∃ q, Hid (ps[n] = q) := ⟨ps[n], hide rfl⟩
          rw [unhide Hq] at q0 q1 q2 q3 q4 q5 hqn
          by_cases hnk : n < k
          · have hnkb : decide ((n : Int) < (k : Int)) = true := by simp; omega
            go_wp2_with fail
            refine (lput_any (unhide HS).1.2.2.2 (fun bs h => by have := fold_le _ bs (by rw [← (unhide HS).2]; exact h); have h2 := part_length 0 k (ps.take n); rw [List.length_take] at h2; have h3 : 65537 * (part 0 k (List.take n ps)).length ≤ 65537 * 1048576 := Nat.mul_le_mul_left _ (by omega); omega) q hqn).mono ?_
            rintro e wk2 ⟨rfl, hP⟩
            obtain ⟨g', hW⟩ := (unhide HS).1.next hP
            have HW := hide hW
            clear hP hW q0 q1 q2 q3 q4 q5
            go_wp2
            exact ⟨⟨n + 1, by omega, by go_num, g', _, unhide HW, by rw [part0_lt ps k n hlt hnk, fold_snoc, ← (unhide HS).2, unhide Hq]⟩, by simp [intOf]; omega⟩
          · have hnkb : decide ((n : Int) < (k : Int)) = false := by simp; omega
            go_wp2
            exact ⟨⟨n + 1, by omega, by go_num, g, st, (unhide HS).1, by rw [part0_ge ps k n hlt hnk]; exact (unhide HS).2⟩, by simp [intOf]; omega⟩
        · go_wp2_with fail
          have hst := (unhide HS).2
          rw [part_all _ _ _ _ hlt] at hst
          have hV2 := (unhide HV).later (unhide HS).1.1
          have hrbl := hV2.rbl
          have hrbw := hV2.rbw
          have hws := hV2.fr.size
          cases st with
          | some bs =>
            have hlen : bs.length ≤ 140737488355328 := by
              have h1 := fold_le _ bs hst.symm
              have h2 := part_length 0 k ps
              have h3 : 65537 * (part 0 k ps).length ≤ 65537 * 1048576 := Nat.mul_le_mul_left _ (by omega)
              omega
            refine (bytes_ok (unhide HS).1.2.2.2 hlen).mono ?_
            rintro e w2 ⟨v, g', rfl, hrow, hF, hg⟩
            have hV3 := hV2.later hF
            obtain ⟨ao, cap, rfl, _⟩ := hrow.shape
            have hgave : Gave w w2 rb (.slice ao bs.length cap) (fold (part 0 k ps)) := by rw [← hst]; exact ⟨g', hrow, by omega, by omega⟩
            have HX := hide (hV3.put0 _ hgave)
            obtain ⟨v0, v1, v2, c0, c1, c2, _⟩ := hV3.cells
            have f0 := hV3.fz 0 (by omega)
            have HT := hide hst
            clear hst hV2 hV3 hgave hrow hF hg hlen HS HV HN HI
            have hb0 : badB k ps 0 = false := by simp [badB]
            go_wp2
            exact ⟨⟨1, by omega, by omega, rfl, by simp [badB, ← (unhide HT)], HX⟩, by simp [intOf]⟩
          | none =>
            refine (bytes_bad (unhide HS).1.2.2.2).mono ?_
            rintro e w2 ⟨rfl, rfl⟩
            have HX := hide (hV2.put0 (.slice none 0 0) (by rw [← hst]; rfl))
            obtain ⟨v0, v1, v2, c0, c1, c2, _⟩ := hV2.cells
            have f0 := hV2.fz 0 (by omega)
            have HT := hide hst
            clear hst hV2 HS HV HN HI
            have hb0 : badB k ps 0 = false := by simp [badB]
            go_wp2
            exact ⟨⟨1, by omega, by omega, rfl, by simp [badB, ← (unhide HT)], HX⟩, by simp [intOf]⟩

    · go_wp2_with fail
      refine (newwriter_any _).mono ?_
      rintro e wn ⟨rfl, rfl⟩
      have HN := hide (WOwn.new wr)
      generalize (wr.alloc (.cells #[.slice none 0 0, .bool false] 68)) = wn at HN ⊢
      generalize wr.heap.size = p at HN ⊢
      go_wp2
      go_loopw [11] (fun nv wk => ∃ n : Nat, n ≤ ps.length ∧ nv = .int .i64 n ∧ ∃ g st, Hid (WOwn wr wk p g st ∧ st = fold (part 1 k (ps.take n)))) (fun nv _ => ps.length - (intOf nv).toNat)
      case atStart => exact ⟨0, Nat.zero_le _, rfl, p, some [], unhide HN, (part_start 1 k ps).symm⟩
      case round =>
        obtain ⟨n, hn, rfl, g, st, HS⟩ := hrel
        by_cases hlt : n < ps.length
        · obtain ⟨b, off, rfl⟩ : ∃ b off, lo = some ⟨b, off, none⟩ := by
            obtain ⟨b, off, e, _⟩ := (unhide HL).1 (by omega)
            exact ⟨b, off, e⟩
          obtain ⟨q0, q1, q2, q3, q4, q5⟩ := (unhide HL).cells ((unhide HV).fr.trans (unhide HS).1.1 (fun _ _ t => t)) n hlt
          have hqn := (unhide HL).2.2 ps[n] (List.getElem_mem hlt)
          obtain ⟨q, Hq⟩ : ∃ q, Hid (ps[n] = q) := ⟨ps[n], hide rfl⟩
          rw [unhide Hq] at q0 q1 q2 q3 q4 q5 hqn
          by_cases hnk : n < k
          · have hnkb : decide ((n : Int) < (k : Int)) = true := by simp; omega
            go_wp2
            exact ⟨⟨n + 1, by omega, by go_num, g, st, (unhide HS).1, by rw [part1_lt ps k n hlt hnk]; exact (unhide HS).2⟩, by simp [intOf]; omega⟩
          · have hnkb : decide ((n : Int) < (k : Int)) = false := by simp; omega
            go_wp2_with fail
            refine (lput_any (unhide HS).1.2.2.2 (fun bs h => by have := fold_le _ bs (by rw [← (unhide HS).2]; exact h); have h2 := part_length 1 k (ps.take n); rw [List.length_take] at h2; have h3 : 65537 * (part 1 k (List.take n ps)).length ≤ 65537 * 1048576 := Nat.mul_le_mul_left _ (by omega); omega) q hqn).mono ?_
            rintro e wk2 ⟨rfl, hP⟩
            obtain ⟨g', hW⟩ := (unhide HS).1.next hP
            have HW := hide hW
            clear hP hW q0 q1 q2 q3 q4 q5
            go_wp2
            exact ⟨⟨n + 1, by omega, by go_num, g', _, unhide HW, by rw [part1_ge ps k n hlt hnk, fold_snoc, ← (unhide HS).2, unhide Hq]⟩, by simp [intOf]; omega⟩
        · go_wp2_with fail
          have hst := (unhide HS).2
          rw [part_all _ _ _ _ hlt] at hst
          have hV2 := (unhide HV).later (unhide HS).1.1
          have hrbl := hV2.rbl
          have hrbw := hV2.rbw
          have hws := hV2.fr.size
          cases st with
          | some bs =>
            have hlen : bs.length ≤ 140737488355328 := by
              have h1 := fold_le _ bs hst.symm
              have h2 := part_length 1 k ps
              have h3 : 65537 * (part 1 k ps).length ≤ 65537 * 1048576 := Nat.mul_le_mul_left _ (by omega)
              omega
            refine (bytes_ok (unhide HS).1.2.2.2 hlen).mono ?_
            rintro e w2 ⟨v, g', rfl, hrow, hF, hg⟩
            have hV3 := hV2.later hF
            obtain ⟨ao, cap, rfl, _⟩ := hrow.shape
            have hgave : Gave w w2 rb (.slice ao bs.length cap) (fold (part 1 k ps)) := by rw [← hst]; exact ⟨g', hrow, by omega, by omega⟩
            have HX := hide (hV3.put1 _ hgave)
            obtain ⟨v0, v1, v2, c0, c1, c2, _⟩ := hV3.cells
            have f0 := hV3.fz 1 (by omega)
            have HT := hide hst
            clear hst hV2 hV3 hgave hrow hF hg hlen HS HV HN HI
            rcases hbv : badB k ps 1 with _ | _
            · go_wp2
              exact ⟨⟨2, by omega, by omega, rfl, by have h0 : (fold (part 0 k ps)).isNone = false := by simpa [badB] using hbv
                                                     simp [badB, ← (unhide HT), h0], HX⟩, by simp [intOf]⟩
            · go_wp2
              exact ⟨⟨2, by omega, by omega, rfl, by have h0 : (fold (part 0 k ps)).isNone = true := by simpa [badB] using hbv
                                                     simp [badB, h0], HX⟩, by simp [intOf]⟩
          | none =>
            refine (bytes_bad (unhide HS).1.2.2.2).mono ?_
            rintro e w2 ⟨rfl, rfl⟩
            have HX := hide (hV2.put1 (.slice none 0 0) (by rw [← hst]; rfl))
            obtain ⟨v0, v1, v2, c0, c1, c2, _⟩ := hV2.cells
            have f0 := hV2.fz 1 (by omega)
            have HT := hide hst
            clear hst hV2 HS HV HN HI
            rcases hbv : badB k ps 1 with _ | _
            · go_wp2
              exact ⟨⟨2, by omega, by omega, rfl, by have h0 : (fold (part 0 k ps)).isNone = false := by simpa [badB] using hbv
                                                     simp [badB, ← (unhide HT), h0], HX⟩, by simp [intOf]⟩
            · go_wp2
              exact ⟨⟨2, by omega, by omega, rfl, by have h0 : (fold (part 0 k ps)).isNone = true := by simpa [badB] using hbv
                                                     simp [badB, h0], HX⟩, by simp [intOf]⟩

    · go_wp2_with fail
      refine (newwriter_any _).mono ?_
      rintro e wn ⟨rfl, rfl⟩
      have HN := hide (WOwn.new wr)
      generalize (wr.alloc (.cells #[.slice none 0 0, .bool false] 68)) = wn at HN ⊢
      generalize wr.heap.size = p at HN ⊢
      go_wp2
      go_loopw [11] (fun nv wk => ∃ n : Nat, n ≤ ps.length ∧ nv = .int .i64 n ∧ ∃ g st, Hid (WOwn wr wk p g st ∧ st = fold (part 2 k (ps.take n)))) (fun nv _ => ps.length - (intOf nv).toNat)
      case atStart => exact ⟨0, Nat.zero_le _, rfl, p, some [], unhide HN, (part_start 2 k ps).symm⟩
      case round =>
        obtain ⟨n, hn, rfl, g, st, HS⟩ := hrel
        by_cases hlt : n < ps.length
        · obtain ⟨b, off, rfl⟩ : ∃ b off, lo = some ⟨b, off, none⟩ := by
            obtain ⟨b, off, e, _⟩ := (unhide HL).1 (by omega)
            exact ⟨b, off, e⟩
          obtain ⟨q0, q1, q2, q3, q4, q5⟩ := (unhide HL).cells ((unhide HV).fr.trans (unhide HS).1.1 (fun _ _ t => t)) n hlt
          have hqn := (unhide HL).2.2 ps[n] (List.getElem_mem hlt)
          obtain ⟨q, Hq⟩ : ∃ q, Hid (ps[n] = q) := ⟨ps[n], hide rfl⟩
          rw [unhide Hq] at q0 q1 q2 q3 q4 q5 hqn
          go_wp2_with fail
          refine (lput_any (unhide HS).1.2.2.2 (fun bs h => by have := fold_le _ bs (by rw [← (unhide HS).2]; exact h); have h2 := part_length 2 k (ps.take n); rw [List.length_take] at h2; have h3 : 65537 * (part 2 k (List.take n ps)).length ≤ 65537 * 1048576 := Nat.mul_le_mul_left _ (by omega); omega) q hqn).mono ?_
          rintro e wk2 ⟨rfl, hP⟩
          obtain ⟨g', hW⟩ := (unhide HS).1.next hP
          have HW := hide hW
          clear hP hW q0 q1 q2 q3 q4 q5
          go_wp2
          exact ⟨⟨n + 1, by omega, by go_num, g', _, unhide HW, by rw [part2 ps k n hlt, fold_snoc, ← (unhide HS).2, unhide Hq]⟩, by simp [intOf]; omega⟩
        · go_wp2_with fail
          have hst := (unhide HS).2
          rw [part_all _ _ _ _ hlt] at hst
          have hV2 := (unhide HV).later (unhide HS).1.1
          have hrbl := hV2.rbl
          have hrbw := hV2.rbw
          have hws := hV2.fr.size
          cases st with
          | some bs =>
            have hlen : bs.length ≤ 140737488355328 := by
              have h1 := fold_le _ bs hst.symm
              have h2 := part_length 2 k ps
              have h3 : 65537 * (part 2 k ps).length ≤ 65537 * 1048576 := Nat.mul_le_mul_left _ (by omega)
              omega
            refine (bytes_ok (unhide HS).1.2.2.2 hlen).mono ?_
            rintro e w2 ⟨v, g', rfl, hrow, hF, hg⟩
            have hV3 := hV2.later hF
            obtain ⟨ao, cap, rfl, _⟩ := hrow.shape
            have hgave : Gave w w2 rb (.slice ao bs.length cap) (fold (part 2 k ps)) := by rw [← hst]; exact ⟨g', hrow, by omega, by omega⟩
            have HX := hide (hV3.put2 _ hgave)
            obtain ⟨v0, v1, v2, c0, c1, c2, _⟩ := hV3.cells
            have f0 := hV3.fz 2 (by omega)
            have HT := hide hst
            clear hst hV2 hV3 hgave hrow hF hg hlen HS HV HN HI
            have hj := parts_join ps k
            rw [← unhide HT] at hj
            have hb2 : badB k ps 2 = false := by
              cases e0 : fold (part 0 k ps) with
              | none => rw [e0, stepW_none] at hj; cases hj
              | some a =>
                cases e1 : fold (part 1 k ps) with
                | none => rw [e0, e1] at hj; cases hj
                | some b => simp [badB, e0, e1]
            clear hj
            go_wp2
            exact ⟨⟨3, by omega, by omega, rfl, by rw [← hb2]; simp [badB], HX⟩, by simp [intOf]⟩
          | none =>
            refine (bytes_bad (unhide HS).1.2.2.2).mono ?_
            rintro e w2 ⟨rfl, rfl⟩
            have HX := hide (hV2.put2 (.slice none 0 0) (by rw [← hst]; rfl))
            obtain ⟨v0, v1, v2, c0, c1, c2, _⟩ := hV2.cells
            have f0 := hV2.fz 2 (by omega)
            have HT := hide hst
            clear hst hV2 HS HV HN HI
            have hj := parts_join ps k
            rw [← unhide HT] at hj
            have hb2 : badB k ps 2 = true := by
              cases e0 : fold (part 0 k ps) with
              | none => simp [badB, e0]
              | some a =>
                cases e1 : fold (part 1 k ps) with
                | none => simp [badB, e0, e1]
                | some b => rw [e0, e1] at hj; cases hj
            clear hj
            go_wp2
            exact ⟨⟨3, by omega, by omega, rfl, by rw [← hb2]; simp [badB], HX⟩, by simp [intOf]⟩

    · rcases hb3 : badB k ps 3 with _ | _
      · obtain ⟨v0, v1, v2, c0, c1, c2, g0, g1, g2⟩ := (unhide HV).cells
        have g0 := g0 (by omega)
        have g1 := g1 (by omega)
        have g2 := g2 (by omega)
        have hj := parts_join ps k
        cases e0 : fold (part 0 k ps) with
        | none => simp [badB, e0] at hb3
        | some a =>
          cases e1 : fold (part 1 k ps) with
          | none => simp [badB, e1] at hb3
          | some b =>
            have hla : a.length ≤ 100000000000 := by
              have h1 := fold_le _ a e0
              have h2 := part_length 0 k ps
              have h3 : 65537 * (part 0 k ps).length ≤ 65537 * 1048576 := Nat.mul_le_mul_left _ (by omega)
              omega
            have hlb : b.length ≤ 100000000000 := by
              have h1 := fold_le _ b e1
              have h2 := part_length 1 k ps
              have h3 : 65537 * (part 1 k ps).length ≤ 65537 * 1048576 := Nat.mul_le_mul_left _ (by omega)
              omega
            rw [e0, e1] at hj
            rw [e0] at g0
            rw [e1] at g1
            rw [hj] at g2
            obtain ⟨h0, r0, _, _⟩ := g0
            obtain ⟨h1, r1, _, _⟩ := g1
            obtain ⟨h2, r2, _, _⟩ := g2
            have cv0 := conv_own r0
            have cv1 := conv_own r1
            have cv2 := conv_own r2
            have HFr := hide (unhide HV).fr
            clear g0 g1 g2 hj e0 e1 r0 r1 r2 HV HI
            go_wp2
            go_ret
            exact ⟨by rw [cat_list]; simp, unhide HFr⟩
      · go_wp2
        go_ret
        exact ⟨rfl, (unhide HV).fr⟩

theorem parts_walk (w : World) (lo : Option Addr) (lc : Nat) (ps : List Pc) (hL : LAt w lo ps) (hbd : ps.length ≤ 1048576) (cut : Int) (hc1 : -9223372036854775808 ≤ cut) (hc2 : cut ≤ 9223372036854775807) :
    Calls Try.prog 7 #[.slice lo ps.length lc, .int .i64 cut] w fun e w' => e = .returned (.bool true) ∧ Fr (fun _ => False) w w' := by
  by_cases hc : cut < 0
  · exact parts_walk1 w lo lc ps hL hbd cut hc1 hc2 hc
  · exact parts_walk0 w lo lc ps hL hbd cut hc1 hc2 (by omega)

end Go.Proofs.Ytdbmojiplfkniaa
