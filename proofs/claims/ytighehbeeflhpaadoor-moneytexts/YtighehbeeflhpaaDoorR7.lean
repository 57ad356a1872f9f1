/- The document's texts, the way back: Parse. -/
import Derived.Test.YtighehbeeflhpaaDoorR6
namespace Go.Proofs.YtighehbeeflhpaaDoor
open Go.RowKit

theorem parsed_none (s : List UInt8) (h : right (cand s) = true → text (cand s) = s → False) : parsed s = none := by
  unfold parsed
  rw [if_neg]
  intro h2
  simp only [Bool.and_eq_true, decide_eq_true_eq] at h2
  exact h h2.1 h2.2

theorem parsed_great (s : List UInt8) (i : Nat) (h : 9007199254740992 < digN 0 (s.take i)) : parsed s = none := by
  refine parsed_none s fun hr _ => ?_
  have h1 : digN 0 (s.take i) ≤ digN 0 s := by
    have := digN_append (s.take i) (s.drop i) 0
    rw [List.take_append_drop] at this
    rw [this]
    exact digN_le _ _
  have h2 := (right_iff _).1 hr
  unfold cand at h2
  split at h2 <;> omega

theorem parsed_bad (s : List UInt8) (i : Nat) (hi : i < s.length) (h1 : ¬ (s[i].toNat = 45 ∧ i = 0)) (h2 : ¬ (48 ≤ s[i].toNat ∧ s[i].toNat ≤ 57)) (h3 : s[i].toNat ≠ 46) : parsed s = none := by
  refine parsed_none s fun _ ht => ?_
  have key : ∀ u, s[i] ∈ textU u → False := fun u hm => by
    rcases textU_bytes u _ hm with h | h
    · exact h2 h
    · rw [h] at h3; exact h3 rfl
  generalize cand s = c at ht
  unfold text at ht
  split at ht
  · cases i with
    | zero =>
      refine h1 ⟨?_, rfl⟩
      have : s[0] = 45 := by simp [← ht]
      rw [this]; rfl
    | succ j =>
      have hm : s[j + 1] ∈ textU c.natAbs := by
        have e : s[j + 1] = (textU c.natAbs)[j]'(by rw [← ht] at hi; simpa using hi) := by simp [← ht]
        rw [e]; exact List.getElem_mem _
      exact key _ hm
  · refine key c.natAbs ?_
    rw [ht]
    exact List.getElem_mem _

/-- What is held in the loop. -/
def PInv (s : List UInt8) (i d : Nat) (m : Bool) : Prop := d = digN 0 (s.take i) ∧ m = (decide (0 < i) && decide (s.head? = some 45))

theorem pinv_minus (s : List UInt8) (d : Nat) (m : Bool) (h0 : 0 < s.length) (hb : s[0].toNat = 45) (h : PInv s 0 d m) : PInv s 1 d true := by
  refine ⟨?_, ?_⟩
  · rw [h.1, digN_take s 0 h0, if_neg (by omega)]
  · have : s.head? = some 45 := by
      rw [List.head?_eq_getElem?, List.getElem?_eq_getElem h0]
      exact congrArg some (UInt8.toNat_inj.1 hb)
    simp [this]

theorem pinv_keep (s : List UInt8) (i d : Nat) (m : Bool) (hi : i < s.length) (h1 : ¬ (s[i].toNat = 45 ∧ i = 0)) (h : PInv s i d m) : PInv s (i + 1) (if 48 ≤ s[i].toNat ∧ s[i].toNat ≤ 57 then 10 * d + (s[i].toNat - 48) else d) m := by
  refine ⟨?_, ?_⟩
  · rw [digN_take s i hi, ← h.1]
  · rw [h.2]
    cases i with
    | zero =>
      have : s.head? ≠ some 45 := by
        rw [List.head?_eq_getElem?, List.getElem?_eq_getElem hi]
        intro e
        have e2 : s[0] = 45 := Option.some.inj e
        exact h1 ⟨by rw [e2]; rfl, rfl⟩
      simp [this]
    | succ j => simp

theorem pinv_end (s : List UInt8) (d : Nat) (m : Bool) (h : PInv s s.length d m) : cand s = if m then -(d : Int) else (d : Int) := by
  obtain ⟨h1, h2⟩ := h
  rw [List.take_length] at h1
  unfold cand
  rw [h2, h1]
  cases s with
  | nil => rfl
  | cons c r => simp

theorem rparse_any (w : World) (s : List UInt8) (hl : s.length ≤ 140737488355328) :
    Calls Tryd.prog 28 #[.string ⟨s.toArray⟩] w fun e w' => e = .returned (.tuple #[.int .i64 (rv (parsed s)), .int .i64 (re 1 (parsed s))]) ∧ w' = w := by
  by_cases hlong : 20 < s.length
  · rw [parsed_long s (by omega)]
    go_enter Tryd.func28, Tryd.ntmps28
    go_wp2
    go_ret2
    exact ⟨rfl, rfl⟩
  · go_enter Tryd.func28, Tryd.ntmps28
    go_wp2
    go_loopw [4, 5, 6] (fun nv mv iv wr => ∃ (i d : Nat) (m : Bool), i ≤ s.length ∧ iv = .int .i64 i ∧ nv = .int .i64 (d : Int) ∧ mv = .bool m ∧ d ≤ 9007199254740992 ∧ wr = w ∧ Hid (PInv s i d m)) (fun _ _ iv _ => s.length - (intOf iv).toNat)
    case atStart => exact ⟨0, 0, false, Nat.zero_le _, rfl, rfl, rfl, by omega, rfl, by simp [digN], by simp⟩
    case round =>
      obtain ⟨i, d, m, hi, rfl, rfl, rfl, hd, rfl, HI⟩ := hrel
      by_cases hlt : i < s.length
      · have hv : ((⟨s.toArray⟩ : ByteArray)[i]'hlt).toNat = s[i].toNat := rfl
        have hvb : s[i].toNat ≤ 255 := by have := s[i].toNat_lt; omega
        have HP := hide (pinv_keep s i d m hlt)
        have HB := hide (parsed_bad s i hlt)
        by_cases c45 : s[i].toNat = 45 ∧ i = 0
        · obtain ⟨cv, rfl⟩ := c45
          have HM := hide (pinv_minus s d m hlt cv (unhide HI))
          rw [cv] at hv
          clear HP HB hvb cv
          go_wp2
          exact ⟨⟨1, d, true, by omega, by go_num, rfl, rfl, by omega, (by first | rfl | trivial), unhide HM⟩, by simp [intOf]; omega⟩
        · have HP' := hide (unhide HP c45 (unhide HI))
          have HB' := hide (unhide HB c45)
          by_cases cd : 48 ≤ s[i].toNat ∧ s[i].toNat ≤ 57
          · rw [if_pos cd] at HP'
            have HG : Hid (9007199254740992 < 10 * d + (s[i].toNat - 48) → parsed s = none) := fun hgr => parsed_great s (i + 1) (by rw [← (unhide HP').1]; exact hgr)
            generalize s[i].toNat = v at *
            have hx : ((v : Int) == 45) = false := by simp; omega
            obtain ⟨cd1, cd2⟩ := cd
            clear HB HB' HP c45
            by_cases hgr : 9007199254740992 < 10 * d + (v - 48)
            · have HN := hide (unhide HG hgr)
              clear HG HP'
              have hgi : 9007199254740992 < (d : Int) * 10 + v - 48 := by omega
              go_wp2
              go_ret2
              exact ⟨by rw [unhide HN]; rfl, rfl⟩
            · have hgi : (d : Int) * 10 + v - 48 ≤ 9007199254740992 := by omega
              clear HG
              go_wp2
              refine ⟨⟨i + 1, 10 * d + (v - 48), m, by omega, by go_num, congrArg (Value.int .i64) (by omega), rfl, by omega, (by first | rfl | trivial), unhide HP'⟩, by simp [intOf]; omega⟩
          · rw [if_neg cd] at HP'
            by_cases c46 : s[i].toNat = 46
            · rw [c46] at hv
              clear HB HB' HP c45 cd c46 hvb
              go_wp2
              exact ⟨⟨i + 1, d, m, by omega, by go_num, rfl, rfl, by omega, (by first | rfl | trivial), unhide HP'⟩, by simp [intOf]; omega⟩
            · have HN := hide (unhide HB' cd c46)
              generalize s[i].toNat = v at *
              have hx : ((v : Int) == 46) = false := by simp; omega
              clear HB HB' HP HP' HI
              go_wp2
              all_goals first
                | (go_ret2; exact ⟨by rw [unhide HN]; rfl, rfl⟩)
                | (exfalso; omega)
      · obtain rfl : i = s.length := by omega
        have HC := hide (pinv_end s d m (unhide HI))
        have HQ : Hid (parsed s = if right (cand s) && decide (text (cand s) = s) then some (cand s) else none) := rfl
        clear HI
        cases m with
        | true =>
          have R := rtext_any wr (-(d : Int)) (by omega) (by omega)
          have HT : Hid (parsed s = if decide (text (-(d : Int)) = s) then some (-(d : Int)) else none) := by
            have e : cand s = -(d : Int) := unhide HC
            have r : right (-(d : Int)) = true := (right_iff _).2 ⟨by omega, by omega⟩
            have := unhide HQ
            rw [e, r, Bool.true_and] at this
            exact this
          clear HQ HC
          go_wp2_with fail
          refine R.mono ?_
          rintro e w1 ⟨rfl, rfl⟩
          clear R
          generalize text (-(d : Int)) = T at HT ⊢
          by_cases hts : T = s
          · have hb : (T == s) = true := by simpa using hts
            have HP' : Hid (parsed s = some (-(d : Int))) := hide (by have := unhide HT; simpa [hts] using this)
            clear HT hts
            go_wp2
            go_ret2
            exact ⟨by rw [unhide HP']; rfl, rfl⟩
          · have hb : (T == s) = false := by simpa using hts
            have HP' : Hid (parsed s = none) := hide (by have := unhide HT; simpa [hts] using this)
            clear HT hts
            go_wp2
            go_ret2
            exact ⟨by rw [unhide HP']; rfl, rfl⟩
        | false =>
          have R := rtext_any wr (d : Int) (by omega) (by omega)
          have HT : Hid (parsed s = if decide (text (d : Int) = s) then some (d : Int) else none) := by
            have e : cand s = (d : Int) := unhide HC
            have r : right (d : Int) = true := (right_iff _).2 ⟨by omega, by omega⟩
            have := unhide HQ
            rw [e, r, Bool.true_and] at this
            exact this
          clear HQ HC
          go_wp2_with fail
          refine R.mono ?_
          rintro e w1 ⟨rfl, rfl⟩
          clear R
          generalize text (d : Int) = T at HT ⊢
          by_cases hts : T = s
          · have hb : (T == s) = true := by simpa using hts
            have HP' : Hid (parsed s = some (d : Int)) := hide (by have := unhide HT; simpa [hts] using this)
            clear HT hts
            go_wp2
            go_ret2
            exact ⟨by rw [unhide HP']; rfl, rfl⟩
          · have hb : (T == s) = false := by simpa using hts
            have HP' : Hid (parsed s = none) := hide (by have := unhide HT; simpa [hts] using this)
            clear HT hts
            go_wp2
            go_ret2
            exact ⟨by rw [unhide HP']; rfl, rfl⟩

end Go.Proofs.YtighehbeeflhpaaDoor
