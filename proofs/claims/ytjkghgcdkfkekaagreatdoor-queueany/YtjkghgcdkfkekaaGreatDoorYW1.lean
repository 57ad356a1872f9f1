import Derived.Test.YtjkghgcdkfkekaaGreatDoorYX
/- Contracts of package wal: mayHold, halfSectors, streamSize, begin, Room, Fits, halfOf; the document's may, Room, begins, Fits. -/
namespace Go.Proofs.YtjkghgcdkfkekaaGreatDoor
open Go.RowKit

/-- May a disk of so many sectors have a log? -/
def mayB (n : Int) : Bool := decide (4 ≤ n ∧ n ≤ 1048576)
theorem mayB_nat {n : Int} (h : mayB n = true) : ∃ m : Nat, n = m ∧ 4 ≤ m ∧ m ≤ 1048576 := by
  have h2 : 4 ≤ n ∧ n ≤ 1048576 := by simpa [mayB] using h
  exact ⟨n.toNat, by omega, by omega, by omega⟩
theorem mayB_of {m : Nat} (h : 4 ≤ m) (h' : m ≤ 1048576) : mayB (m : Int) = true := by simp [mayB]; omega

/-- A half's sectors. -/
def hlf (m : Nat) : Nat := (m - 2) / 2

theorem mayh_any (w : World) (n : Int) : Calls Tryz.prog 38 #[.int .i64 n] w fun e w' => e = .returned (.bool (mayB n)) ∧ w' = w := by
  go_enter Tryz.func38, Tryz.ntmps38
  go_wp2
  all_goals go_ret
  all_goals exact ⟨by first | (simp [mayB, *]; done) | (simp [mayB, *]; omega), rfl⟩

theorem half_int (m : Nat) (h : 4 ≤ m) : ((m : Int) - 2) / 2 = (hlf m : Int) := by unfold hlf; omega

theorem halfs_any (w : World) (m : Nat) (h : 4 ≤ m) (h' : m ≤ 1048576) : Calls Tryz.prog 89 #[.int .i64 (m : Int)] w fun e w' => e = .returned (.int .i64 (hlf m : Int)) ∧ w' = w := by
  have hh := half_int m h
  have h1 : (4 : Int) ≤ (m : Int) := by omega
  have h2 : (m : Int) ≤ 1048576 := by omega
  have HH := hide hh
  clear h h' hh
  go_enter Tryz.func89, Tryz.ntmps89
  go_wp2
  go_ret
  exact ⟨by rw [← unhide HH]; rfl, rfl⟩

theorem hlf_bd (m : Nat) (h : 4 ≤ m) (h' : m ≤ 1048576) : 1 ≤ hlf m ∧ hlf m ≤ 524287 := by unfold hlf; omega

theorem ssize_any (w : World) (m : Nat) (h : 4 ≤ m) (h' : m ≤ 1048576) : Calls Tryz.prog 63 #[.int .i64 (m : Int)] w fun e w' => e = .returned (.int .i64 (504 * (hlf m : Int))) ∧ w' = w := by
  have hb := hlf_bd m h h'
  have hb2 : (hlf m : Int) ≤ 524287 := by omega
  have hb1 : (1 : Int) ≤ (hlf m : Int) := by omega
  clear hb
  go_enter Tryz.func63, Tryz.ntmps63
  go_wp2_with fail
  refine (halfs_any _ m h h').mono ?_
  rintro e w1 ⟨rfl, rfl⟩
  clear h h'
  go_wp2
  go_ret
  exact ⟨rfl, rfl⟩

theorem bgn_int (p : Nat) : (bgn p : Int) = if 504 - (p : Int) % 504 < 12 then (p : Int) + (504 - (p : Int) % 504) else (p : Int) := by
  unfold bgn
  split <;> split <;> omega

theorem begin_any (w : World) (p : Nat) (hp : p < 4611686018427387904) : Calls Tryz.prog 73 #[.int .i64 (p : Int)] w fun e w' => e = .returned (.int .i64 (bgn p : Int)) ∧ w' = w := by
  have hp1 : (0 : Int) ≤ (p : Int) := by omega
  have hp2 : (p : Int) < 4611686018427387904 := by omega
  have HB := hide (bgn_int p)
  clear hp
  by_cases hc : 504 - (p : Int) % 504 < 12
  · go_enter Tryz.func73, Tryz.ntmps73
    go_wp2
    go_ret
    exact ⟨by rw [unhide HB, if_pos hc]; rfl, rfl⟩
  · go_enter Tryz.func73, Tryz.ntmps73
    go_wp2
    go_ret
    exact ⟨by rw [unhide HB, if_neg (by omega)]; rfl, rfl⟩

theorem rbgn_int (p : Nat) : (bgn p : Int) = if (p : Int) % 504 > 492 then ((p : Int) / 504 + 1) * 504 else (p : Int) := by
  unfold bgn
  split <;> split <;> omega

/-- What Room answers. -/
def roomF (n : Int) : Int := if mayB n then 504 * (hlf n.toNat : Int) - 12 else -1

theorem room_any (w : World) (n : Int) : Calls Tryz.prog 34 #[.int .i64 n] w fun e w' => e = .returned (.int .i64 (roomF n)) ∧ w' = w := by
  cases hm : mayB n with
  | false =>
    rw [roomF, hm]
    go_enter Tryz.func34, Tryz.ntmps34
    go_wp2_with fail
    refine (mayh_any _ _).mono ?_
    rintro e w1 ⟨rfl, rfl⟩
    rw [hm]
    go_wp2
    go_ret
    exact ⟨rfl, rfl⟩
  | true =>
    obtain ⟨m, rfl, h1, h2⟩ := mayB_nat hm
    rw [roomF, hm, Int.toNat_natCast]
    have hb := hlf_bd m h1 h2
    have hb2 : (hlf m : Int) ≤ 524287 := by omega
    have hb1 : (1 : Int) ≤ (hlf m : Int) := by omega
    clear hb
    go_enter Tryz.func34, Tryz.ntmps34
    go_wp2_with fail
    refine (mayh_any _ _).mono ?_
    rintro e w1 ⟨rfl, rfl⟩
    rw [hm]
    go_wp2_with fail
    refine (ssize_any _ m h1 h2).mono ?_
    rintro e w1 ⟨rfl, rfl⟩
    go_wp2
    go_ret
    exact ⟨rfl, rfl⟩

/-- Records in memory, as they can be read. -/
structure Recs (w : World) (ro : Option Addr) (rc : Nat) (rs : List Bs) : Prop where
  cells : 0 < rs.length → ∃ b off, ro = some ⟨b, off, none⟩ ∧ ∀ i (h : i < rs.length), ∃ ao cap, w.cell? ⟨b, off + i, none⟩ = some (.slice ao rs[i].length cap) ∧ BAt w ao cap rs[i]
  small : rs.length ≤ 140737488355328

theorem Recs.stay {S : Nat → Prop} {w w' : World} {ro : Option Addr} {rc : Nat} {rs : List Bs} (h : Recs w ro rc rs) (hF : Fr S w w') (hS : ∀ k, k < w.heap.size → S k → False) : Recs w' ro rc rs := by
  refine ⟨fun h0 => ?_, h.small⟩
  obtain ⟨b, off, e, hc⟩ := h.cells h0
  refine ⟨b, off, e, fun i hi => ?_⟩
  obtain ⟨ao, cap, h1, h2⟩ := hc i hi
  exact ⟨ao, cap, (hF.cell (a := ⟨b, off + i, none⟩) (World.block_lt_of_cell? _ _ h1) (hS _ (World.block_lt_of_cell? _ _ h1))).trans h1, h2.stay (fun b' _ _ _ hlt => hF.block b' hlt (hS b' hlt))⟩

/-- What Fits answers. -/
def fitsF (n : Int) (rs : List Bs) : Bool := mayB n && decide ((strm rs).length ≤ 504 * hlf n.toNat)

theorem strm_len_take (rs : List Bs) (i : Nat) (h : i < rs.length) : (strm (rs.take (i + 1))).length = bgn (strm (rs.take i)).length + 12 + rs[i].length := pos_end rs i h

set_option maxRecDepth 20000 in
theorem fits_any (w : World) (n : Int) (ro : Option Addr) (rc : Nat) (rs : List Bs) (hR : Recs w ro rc rs) :
    Calls Tryz.prog 60 #[.int .i64 n, .slice ro rs.length rc] w fun e w' => e = .returned (.bool (fitsF n rs)) ∧ w' = w := by
  cases hm : mayB n with
  | false =>
    rw [fitsF, hm]
    go_enter Tryz.func60, Tryz.ntmps60
    go_wp2_with fail
    refine (mayh_any _ _).mono ?_
    rintro e w1 ⟨rfl, rfl⟩
    rw [hm]
    go_wp2
    go_ret
    exact ⟨rfl, rfl⟩
  | true =>
    obtain ⟨m, rfl, h1, h2⟩ := mayB_nat hm
    have hb := hlf_bd m h1 h2
    have hb2 : (hlf m : Int) ≤ 524287 := by omega
    have hb1 : (1 : Int) ≤ (hlf m : Int) := by omega
    have hsm : (rs.length : Int) ≤ 140737488355328 := by have := hR.small; omega
    have HH := hide (And.intro hR (And.intro hm (And.intro h1 (And.intro h2 hb))))
    clear hb h1 h2 hR hm
    go_enter Tryz.func60, Tryz.ntmps60
    go_wp2_with fail
    refine (mayh_any _ _).mono ?_
    rintro e w1 ⟨rfl, rfl⟩
    rw [(unhide HH).2.1]
    go_wp2
    go_loopw [5, 13] (fun ev iv wr => ∃ i : Nat, i ≤ rs.length ∧ iv = .int .i64 i ∧ ev = .int .i64 ((strm (rs.take i)).length : Nat) ∧ Hid ((strm (rs.take i)).length ≤ 504 * hlf m) ∧ w1 = wr) (fun _ iv _ => rs.length - (intOf iv).toNat)
    case atStart => exact ⟨0, Nat.zero_le _, rfl, rfl, Nat.zero_le _, rfl⟩
    case round =>
      obtain ⟨i, hi, rfl, rfl, hle, rfl⟩ := hrel
      obtain ⟨hR, hm, h1, h2, hb⟩ := unhide HH
      by_cases hlt : i < rs.length
      · obtain ⟨b, off, rfl, hc⟩ := hR.cells (by omega)
        obtain ⟨ao, cap, hci, hbi⟩ := hc i hlt
        have hsl := hbi.2.2
        have hsn := strm_len_take rs i hlt
        have hmono := strm_take_len rs (show i + 1 ≤ rs.length from hlt)
        rw [List.take_length] at hmono
        have hbg := bgn_lt (strm (rs.take i)).length
        have hle' := unhide hle
        generalize hL : (strm (rs.take i)).length = L at *
        generalize hN : (strm (rs.take (i + 1))).length = N at *
        have hlb : L < 4611686018427387904 := by omega
        have hBb : (bgn L : Int) ≤ 264240660 := by omega
        have hB0 : (0 : Int) ≤ (bgn L : Int) := by omega
        have hXb : (rs[i].length : Int) ≤ 140737488355328 := by omega
        have hilt : (i : Int) < (rs.length : Int) := by omega
        have HK := hide (And.intro hsn (And.intro hmono (And.intro hL (And.intro hN hle'))))
        clear hsn hmono hbg hL hN hc hbi hsl hm hle' hle
        generalize hX : rs[i].length = X at *
        have HX := hide hX
        clear hX
        by_cases hfit : bgn L + 12 + X ≤ 504 * hlf m
        · have hf : ¬ (504 * (hlf m : Int) < (bgn L : Int) + 12 + (X : Int)) := by omega
          have HFIT := hide hfit
          go_wp2_with fail
          refine (begin_any _ L hlb).mono ?_
          rintro e w2 ⟨rfl, rfl⟩
          go_wp2_with fail
          refine (ssize_any _ m h1 h2).mono ?_
          rintro e w2 ⟨rfl, rfl⟩
          clear h1 h2 hb hR hfit
          go_wp2
          obtain ⟨hsn, hmono, hL, hN, hle'⟩ := unhide HK
          refine ⟨⟨i + 1, by omega, by go_num, ?_, by show (strm (rs.take (i + 1))).length ≤ 504 * hlf m; have := unhide HFIT; omega, trivial⟩, by simp [intOf]; omega⟩
          rw [hN, hsn]; exact congrArg (Value.int .i64) (by omega)
        · have hf : 504 * (hlf m : Int) < (bgn L : Int) + 12 + (X : Int) := by omega
          have HFIT := hide hfit
          go_wp2_with fail
          refine (begin_any _ L hlb).mono ?_
          rintro e w2 ⟨rfl, rfl⟩
          go_wp2_with fail
          refine (ssize_any _ m h1 h2).mono ?_
          rintro e w2 ⟨rfl, rfl⟩
          clear h1 h2 hb hR
          go_wp2
          go_ret
          obtain ⟨hsn, hmono, hL, hN, hle'⟩ := unhide HK
          refine ⟨?_, rfl⟩
          have hx1 := unhide HX
          have hx2 := unhide HFIT
          subst hL
          rw [fitsF, Int.toNat_natCast, decide_eq_false (by omega), Bool.and_false]; rfl
      · obtain rfl : i = rs.length := by omega
        rw [List.take_length] at *
        have hfl := unhide hle
        clear hR h1 h2 hb
        have HF := hide (And.intro hfl hm)
        clear hfl hm hle
        generalize hL : (strm rs).length = L at *
        have HL := hide hL
        clear hL
        go_wp2
        go_ret
        refine ⟨?_, rfl⟩
        obtain ⟨hfl, hm⟩ := unhide HF
        rw [fitsF, hm, Int.toNat_natCast, Bool.true_and, decide_eq_true (by rw [unhide HL]; exact hfl)]; rfl

end Go.Proofs.YtjkghgcdkfkekaaGreatDoor

