/- Times as texts, the way back: number, dayOf, Parse. -/
import Derived.Test.YtnnhhfajcecdkaaDoorS3
namespace Go.Proofs.YtnnhhfajcecdkaaDoor
open Go.RowKit Go.Sort

/-- The number of a text, 0 of what is none. -/
def numV (l : List UInt8) : Int := (Lib.atoi l).getD 0

theorem number_any (w : World) (f : ByteArray) (hl : f.size ≤ 18) (hE : Env w) :
    Calls Tryd.prog 36 #[.string f] w fun e w' => e = .returned (.int .i64 (numV f.data.toList)) ∧ Fr (fun _ => False) w w' := by
  cases h : Lib.atoi f.data.toList with
  | some n =>
    have R := Tryd.strconv_Atoi f n hl h w
    have e1 : numV f.data.toList = n := by simp [numV, h]
    rw [e1]
    clear e1 h hE
    go_enter Tryd.func36, Tryd.ntmps36
    go_wp2_with fail
    refine R.mono ?_
    rintro e w1 ⟨rfl, t, rfl⟩
    have HF := hide (below_fr (Lib.bytesWorld_below w 5 t))
    generalize Lib.bytesWorld w 5 t = w1 at HF ⊢
    go_wp2
    go_ret
    exact ⟨rfl, unhide HF⟩
  | none =>
    obtain ⟨ev, h1, h2⟩ := hE.err
    have R := Tryd.strconv_Atoi_err f hl h ev w h1 h2
    have e1 : numV f.data.toList = 0 := by simp [numV, h]
    rw [e1]
    clear e1 h hE h1 h2
    go_enter Tryd.func36, Tryd.ntmps36
    go_wp2_with fail
    refine R.mono ?_
    rintro e w1 ⟨N, rfl, _, _, hB⟩
    have HF := hide (below_fr hB)
    clear R hB
    go_wp2
    go_ret
    exact ⟨rfl, unhide HF⟩

theorem sepf_any (w : World) (x : Nat) : Calls Tryd.prog 35 #[.int .i32 (x : Int)] w fun e w' => e = .returned (.bool (sep x)) ∧ w' = w := by
  by_cases h1 : x = 32
  · subst h1
    go_enter Tryd.func35, Tryd.ntmps35
    go_wp2
    go_ret
    exact ⟨rfl, rfl⟩
  · have e1 : sep x = decide (x = 58) := by
      have : (x == 32) = false := by simpa using h1
      unfold sep
      rw [this, Bool.false_or]
      rfl
    rw [e1]
    have h2 : ((x : Int) == 32) = false := by simp; omega
    by_cases h3 : x = 58
    · subst h3
      go_enter Tryd.func35, Tryd.ntmps35
      go_wp2
      go_ret
      exact ⟨rfl, rfl⟩
    · have h4 : ((x : Int) == 58) = false := by simp; omega
      rw [decide_eq_false h3]
      clear e1 h1 h3
      go_enter Tryd.func35, Tryd.ntmps35
      go_wp2
      go_ret
      exact ⟨rfl, rfl⟩

theorem dayIx_at (l : List UInt8) (i : Nat) (hi : i < 7) (h : word i = l) : dayIx l = i := by
  rw [← h]; exact dayIx_word i hi

theorem dayIx_none (l : List UInt8) (h : ∀ j, j < 7 → word j ≠ l) : dayIx l = 0 := by
  unfold dayIx
  rw [if_neg (h 0 (by decide)), if_neg (h 1 (by decide)), if_neg (h 2 (by decide)), if_neg (h 3 (by decide)), if_neg (h 4 (by decide)), if_neg (h 5 (by decide)), if_neg (h 6 (by decide))]

theorem run_index_days (w : World) (i : Nat) (hi : i < 7) : (Instr.index 43 (.agg #[.string ⟨#[77, 111, 110]⟩, .string ⟨#[84, 117, 101]⟩, .string ⟨#[87, 101, 100]⟩, .string ⟨#[84, 104, 117]⟩, .string ⟨#[70, 114, 105]⟩, .string ⟨#[83, 97, 116]⟩, .string ⟨#[83, 117, 110]⟩]) (.int .i64 (i : Int))).run Tryd.prog w = .ok (.string ⟨(word i).toArray⟩) w := by
  have h3 : (sizeOf 9).run Tryd.prog w = .ok 1 w := by kernel_rfl
  match i, hi with
  | 0, _ => simp [Instr.index, run_underlying Tryd.underlying43, asIntOf, part, h3, word]
  | 1, _ => simp [Instr.index, run_underlying Tryd.underlying43, asIntOf, part, h3, word]
  | 2, _ => simp [Instr.index, run_underlying Tryd.underlying43, asIntOf, part, h3, word]
  | 3, _ => simp [Instr.index, run_underlying Tryd.underlying43, asIntOf, part, h3, word]
  | 4, _ => simp [Instr.index, run_underlying Tryd.underlying43, asIntOf, part, h3, word]
  | 5, _ => simp [Instr.index, run_underlying Tryd.underlying43, asIntOf, part, h3, word]
  | 6, _ => simp [Instr.index, run_underlying Tryd.underlying43, asIntOf, part, h3, word]
  | n + 7, h => exact absurd h (by omega)

theorem day_any7 (w : World) (l : List UInt8) (hE : Env w) :
    Calls Tryd.prog 37 #[.string ⟨l.toArray⟩] w fun e w' => e = .returned (.int .i64 ((dayIx l : Nat) : Int)) ∧ w' = w := by
  have c0 : w.cell? ⟨0, 0, none⟩ = some (.string ⟨#[77, 111, 110]⟩) := hE.days 0 (by decide)
  have c1 : w.cell? ⟨0, 1, none⟩ = some (.string ⟨#[84, 117, 101]⟩) := hE.days 1 (by decide)
  have c2 : w.cell? ⟨0, 2, none⟩ = some (.string ⟨#[87, 101, 100]⟩) := hE.days 2 (by decide)
  have c3 : w.cell? ⟨0, 3, none⟩ = some (.string ⟨#[84, 104, 117]⟩) := hE.days 3 (by decide)
  have c4 : w.cell? ⟨0, 4, none⟩ = some (.string ⟨#[70, 114, 105]⟩) := hE.days 4 (by decide)
  have c5 : w.cell? ⟨0, 5, none⟩ = some (.string ⟨#[83, 97, 116]⟩) := hE.days 5 (by decide)
  have c6 : w.cell? ⟨0, 6, none⟩ = some (.string ⟨#[83, 117, 110]⟩) := hE.days 6 (by decide)
  clear hE
  go_enter Tryd.func37, Tryd.ntmps37
  go_wp2
  go_loopw [3, 4, 6] (fun _ _ iv wr => ∃ (i : Nat), i ≤ 7 ∧ iv = .int .i64 i ∧ wr = w ∧ Hid (∀ j, j < i → word j ≠ l)) (fun _ _ iv _ => 7 - (intOf iv).toNat)
  case atStart => exact ⟨0, Nat.zero_le _, rfl, rfl, hide (fun j hj => absurd hj (by omega))⟩
  case round =>
    obtain ⟨i, hi, rfl, rfl, HI⟩ := hrel
    clear c0 c1 c2 c3 c4 c5 c6
    by_cases hlt : i < 7
    · have hix := fun w => run_index_days w i hlt
      by_cases hx : word i = l
      · have hb : (word i == l) = true := by simpa using hx
        have HD := hide (dayIx_at l i hlt hx)
        generalize word i = W at hix hb
        clear hx HI
        go_wp2
        go_ret
        exact ⟨by rw [unhide HD]; rfl, rfl⟩
      · have hb : (word i == l) = false := by simpa using hx
        have HD : Hid (∀ j, j < i + 1 → word j ≠ l) := hide (fun j hj => by
          by_cases e : j = i
          · rw [e]; exact hx
          · exact unhide HI j (by omega))
        generalize word i = W at hix hb
        clear hx HI
        go_wp2
        exact ⟨⟨i + 1, by omega, by go_num, (by first | rfl | trivial), unhide HD⟩, by simp [intOf]; omega⟩
    · obtain rfl : i = 7 := by omega
      have HD := hide (dayIx_none l (unhide HI))
      clear HI
      go_wp2
      go_ret
      exact ⟨by rw [unhide HD]; rfl, rfl⟩

end Go.Proofs.YtnnhhfajcecdkaaDoor
