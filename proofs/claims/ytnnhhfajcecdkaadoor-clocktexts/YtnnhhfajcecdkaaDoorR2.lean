/- The document's texts, the way back: Parse. -/
import Derived.Test.YtnnhhfajcecdkaaDoorR1
namespace Go.Proofs.YtnnhhfajcecdkaaDoor
open Go.RowKit

/-- The first i bytes are digits, and come to n. -/
def DInv (s : List UInt8) (i n : Nat) : Prop := Lib.decFrom 0 (s.take i) = some n

theorem decFrom_bound : ∀ (l : List UInt8) (a n : Nat), Lib.decFrom a l = some n → n < (a + 1) * 10 ^ l.length
  | [], a, n, h => by
    have : a = n := by simpa [Lib.decFrom] using h
    simp; omega
  | c :: r, a, n, h => by
    unfold Lib.decFrom at h
    cases hd : Lib.digitVal c with
    | none => rw [hd] at h; cases h
    | some d =>
      rw [hd] at h
      have h1 := decFrom_bound r (a * 10 + d) n h
      have hd9 : d ≤ 9 := by
        unfold Lib.digitVal at hd
        split at hd
        · injection hd with e; omega
        · cases hd
      rw [List.length_cons, Nat.pow_succ, Nat.mul_comm (10 ^ r.length), ← Nat.mul_assoc]
      exact Nat.lt_of_lt_of_le h1 (Nat.mul_le_mul_right _ (by omega))

theorem dinv_lt {s : List UInt8} {i n : Nat} (h : DInv s i n) (hi : i ≤ 7) : n < 10000000 := by
  have h1 := decFrom_bound _ _ _ h
  have h2 : 10 ^ (s.take i).length ≤ 10 ^ 7 := Nat.pow_le_pow_right (by decide) (by simp; omega)
  omega

theorem dinv_next {s : List UInt8} {i n : Nat} (h : DInv s i n) (hi : i < s.length) (h0 : 48 ≤ s[i].toNat) (h1 : s[i].toNat ≤ 57) : DInv s (i + 1) (n * 10 + (s[i].toNat - 48)) :=
  Lib.decFrom_take s i 0 n s[i] _ h (List.getElem?_eq_getElem hi) (by unfold Lib.digitVal; rw [if_pos ⟨h0, h1⟩])

theorem textN_get (t : Nat) : (textN t)[(Lib.decDigits (t / 10080)).length]? = some 32 := by
  unfold textN
  rw [List.getElem?_append_right (Nat.le_refl _)]
  simp

/-- Where the digits end. -/
theorem dinv_end {s : List UInt8} {i n : Nat} (h : DInv s i n) (hx : ∀ hl : i < s.length, 48 ≤ s[i].toNat → s[i].toNat ≤ 57 → 7 ≤ i) (t : Nat) (ht : t ≤ 2147483648) (hs : textN t = s) :
    i = (Lib.decDigits (t / 10080)).length ∧ n = t / 10080 := by
  have h6 := dec_len6 t ht
  have hg := textN_get t
  have hlen := textN_length t
  rw [hs] at hg hlen
  have hk : i = (Lib.decDigits (t / 10080)).length := by
    rcases Nat.lt_trichotomy i (Lib.decDigits (t / 10080)).length with hlt | heq | hgt
    · have hil : i < s.length := by omega
      have hd : s[i] = (Lib.decDigits (t / 10080))[i] := by
        have e : s[i]? = (Lib.decDigits (t / 10080))[i]? := by
          rw [← hs]
          unfold textN
          rw [List.getElem?_append_left hlt]
        rw [List.getElem?_eq_getElem hil, List.getElem?_eq_getElem hlt] at e
        exact Option.some.inj e
      have hdd := dec_digits (t / 10080) _ (List.getElem_mem hlt)
      rw [← hd] at hdd
      have := hx hil hdd.1 hdd.2
      omega
    · exact heq
    · obtain ⟨d, hd⟩ := Lib.digit_of_decFrom (s.take i) 0 n h (Lib.decDigits (t / 10080)).length 32 (by rw [List.getElem?_take_of_lt hgt]; exact hg)
      have h32 : Lib.digitVal 32 = none := by decide
      rw [h32] at hd
      cases hd
  refine ⟨hk, ?_⟩
  have e : s.take i = Lib.decDigits (t / 10080) := by
    rw [hk, ← hs]
    unfold textN
    rw [List.take_left']
    rfl
  unfold DInv at h
  rw [e, decFrom_dec] at h
  exact (Option.some.inj h).symm

theorem digit_sub (k : Nat) (h : k < 10) : (((UInt8.ofNat (48 + k)).toNat : Nat) : Int) = 48 + (k : Int) := by rw [digit_nat k h]; omega

/-- What stands behind the digits. -/
theorem rest_text {s : List UInt8} {i n : Nat} {r0 r1 r2 r3 r4 r5 r6 r7 r8 r9 : UInt8} (hR : [r0, r1, r2, r3, r4, r5, r6, r7, r8, r9] = s.drop i)
    (t : Nat) (hs : textN t = s) (h : i = (Lib.decDigits (t / 10080)).length ∧ n = t / 10080) :
    n = t / 10080 ∧ ((r5.toNat : Int) - 48) * 10 + r6.toNat - 48 = ((t % 1440 / 60 : Nat) : Int) ∧ ((r8.toNat : Int) - 48) * 10 + r9.toNat - 48 = ((t % 60 : Nat) : Int) := by
  have hw := word_length (t % 10080 / 1440)
  have e : s.drop i = 32 :: (word (t % 10080 / 1440) ++ (32 :: (two (t % 1440 / 60) ++ (58 :: two (t % 60))))) := by
    rw [h.1, ← hs]
    unfold textN
    rw [List.drop_left']
    rfl
  rw [e] at hR
  generalize word (t % 10080 / 1440) = W at hR hw
  match W, hw with
  | [a, b, c], _ =>
    unfold two at hR
    simp only [List.cons_append, List.nil_append, List.cons.injEq, and_true] at hR
    obtain ⟨_, _, _, _, _, h5, h6, _, h8, h9⟩ := hR
    subst h5 h6 h8 h9
    refine ⟨h.2, ?_, ?_⟩
    · rw [digit_sub _ (by omega), digit_sub _ (by omega)]; omega
    · rw [digit_sub _ (by omega), digit_sub _ (by omega)]; omega

theorem ten_of (l : List UInt8) (h : l.length = 10) : ∃ r0 r1 r2 r3 r4 r5 r6 r7 r8 r9, [r0, r1, r2, r3, r4, r5, r6, r7, r8, r9] = l := by
  match l, h with
  | [r0, r1, r2, r3, r4, r5, r6, r7, r8, r9], _ => exact ⟨r0, r1, r2, r3, r4, r5, r6, r7, r8, r9, rfl⟩

set_option maxHeartbeats 2000000 in
theorem rparse_any (w : World) (s : List UInt8) (_hl : s.length ≤ 140737488355328) :
    Calls Tryd.prog 24 #[.string ⟨s.toArray⟩] w fun e w' => e = .returned (.tuple #[.int .i64 (rv (parsed s)), .int .i64 (re (parsed s))]) ∧ Fr (fun _ => False) w w' := by
  go_enter Tryd.func24, Tryd.ntmps24
  go_wp2
  go_loopw [4, 5] (fun nv iv wr => ∃ (i n : Nat), i ≤ s.length ∧ i ≤ 7 ∧ iv = .int .i64 i ∧ nv = .int .i64 (n : Int) ∧ wr = w ∧ Hid (DInv s i n)) (fun _ iv _ => 7 - (intOf iv).toNat)
  case atStart => exact ⟨0, 0, Nat.zero_le _, by omega, rfl, rfl, rfl, hide rfl⟩
  case round =>
    obtain ⟨i, n, hi, hi7, rfl, rfl, rfl, HI⟩ := hrel
    have hn := dinv_lt (unhide HI) hi7
    by_cases hgo : ∃ hlt : i < s.length, 48 ≤ s[i].toNat ∧ s[i].toNat ≤ 57 ∧ i < 7
    · obtain ⟨hlt, h1, h2, h3⟩ := hgo
      have HN := hide (dinv_next (unhide HI) hlt h1 h2)
      have hv : ((⟨s.toArray⟩ : ByteArray)[i]'hlt).toNat = s[i].toNat := rfl
      generalize s[i].toNat = v at *
      clear HI
      go_wp2
      exact ⟨⟨i + 1, n * 10 + (v - 48), by omega, by omega, by go_num, congrArg (Value.int .i64) (by omega), (by first | rfl | trivial), unhide HN⟩, by simp [intOf]; omega⟩
    · have HX := hide (dinv_end (unhide HI) (fun hlt h1 h2 => by rcases Nat.lt_or_ge i 7 with h | h; exact absurd ⟨hlt, h1, h2, h⟩ hgo; exact h))
      clear HI
      by_cases hlen : s.length = i + 10
      · have hlt : i < s.length := by omega
        have hv : ((⟨s.toArray⟩ : ByteArray)[i]'hlt).toNat = s[i].toNat := rfl
        have hc : s[i].toNat < 48 ∨ 57 < s[i].toNat ∨ (48 ≤ s[i].toNat ∧ s[i].toNat ≤ 57 ∧ 7 ≤ i) := by
          rcases Nat.lt_or_ge s[i].toNat 48 with h | h
          · exact .inl h
          · rcases Nat.lt_or_ge 57 s[i].toNat with h' | h'
            · exact .inr (.inl h')
            · refine .inr (.inr ⟨h, h', ?_⟩)
              rcases Nat.lt_or_ge i 7 with h2 | h2
              · exact absurd ⟨hlt, h, h', h2⟩ hgo
              · omega
        clear hgo
        generalize s[i].toNat = v at *
        have hb : ((s.length : Int) == (i : Int) + 10) = true := by simp; omega
        have hs0 : Hid (s ≠ []) := hide (fun e => by rw [e] at hlt; simp at hlt)
        obtain ⟨r0, r1, r2, r3, r4, r5, r6, r7, r8, r9, hR⟩ := ten_of (s.drop i) (by simp; omega)
        have he : (⟨s.toArray⟩ : ByteArray).extract i (i + 10) = ⟨#[r0, r1, r2, r3, r4, r5, r6, r7, r8, r9]⟩ := by
          rw [extract_list, List.take_of_length_le (by omega), ← hR]
        have HT : Hid (∀ t, t ≤ 2147483648 → textN t = s → n = t / 10080 ∧ ((r5.toNat : Int) - 48) * 10 + r6.toNat - 48 = ((t % 1440 / 60 : Nat) : Int) ∧ ((r8.toNat : Int) - 48) * 10 + r9.toNat - 48 = ((t % 60 : Nat) : Int)) := hide (fun t ht e => rest_text hR t e (unhide HX t ht e))
        clear hR HX
        have b5 : r5.toNat ≤ 255 := by have := r5.toNat_lt; omega
        have b6 : r6.toNat ≤ 255 := by have := r6.toNat_lt; omega
        have b8 : r8.toNat ≤ 255 := by have := r8.toNat_lt; omega
        have b9 : r9.toNat ≤ 255 := by have := r9.toNat_lt; omega
        have g5 : ((⟨#[r0, r1, r2, r3, r4, r5, r6, r7, r8, r9]⟩ : ByteArray)[5]'(by simp [ByteArray.size])).toNat = r5.toNat := rfl
        have g6 : ((⟨#[r0, r1, r2, r3, r4, r5, r6, r7, r8, r9]⟩ : ByteArray)[6]'(by simp [ByteArray.size])).toNat = r6.toNat := rfl
        have g8 : ((⟨#[r0, r1, r2, r3, r4, r5, r6, r7, r8, r9]⟩ : ByteArray)[8]'(by simp [ByteArray.size])).toNat = r8.toNat := rfl
        have g9 : ((⟨#[r0, r1, r2, r3, r4, r5, r6, r7, r8, r9]⟩ : ByteArray)[9]'(by simp [ByteArray.size])).toNat = r9.toNat := rfl
        generalize r5.toNat = x5 at *
        generalize r6.toNat = x6 at *
        generalize r8.toNat = x8 at *
        generalize r9.toNat = x9 at *
        have HZ : Hid (∀ (H M : Int), H = ((x5 : Int) - 48) * 10 + x6 - 48 → M = ((x8 : Int) - 48) * 10 + x9 - 48 → (∀ j : Nat, j < 7 → text ((n : Int) * 10080 + (j : Int) * 1440 + H * 60 + M) ≠ s) → parsed s = none) := hide (fun H M hH hM hj => parsed_none (fun t ht e => by
          obtain ⟨e1, e2, e3⟩ := unhide HT t ht e
          rw [← hH] at e2
          rw [← hM] at e3
          refine hj (t % 10080 / 1440) (by omega) ?_
          rw [e1, e2, e3, show ((t / 10080 : Nat) : Int) * 10080 + ((t % 10080 / 1440 : Nat) : Int) * 1440 + ((t % 1440 / 60 : Nat) : Int) * 60 + ((t % 60 : Nat) : Int) = (t : Int) by omega, text_nat t ht, e]))
        clear HT
        rcases hc with hc | hc | ⟨hc1, hc2, hc3⟩
        all_goals
          go_wp2
          go_quiet (fail)
          go_wp2
          go_quiet (fail)
          go_wp2
          generalize hH : ((x5 : Int) - 48) * 10 + x6 - 48 = H
          generalize hM : ((x8 : Int) - 48) * 10 + x9 - 48 = M
          have hH0 : -1000 ≤ H ∧ H ≤ 3000 := by omega
          have hM0 : -1000 ≤ M ∧ M ≤ 3000 := by omega
          have HQ := hide (unhide HZ H M hH.symm hM.symm)
          clear hH hM HZ g5 g6 g8 g9 he b5 b6 b8 b9
          go_loopw [9, 10] (fun dv _ wx => ∃ (d : Nat), d ≤ 7 ∧ dv = .int .i64 d ∧ Hid (Fr (fun _ => False) wr wx ∧ ∀ j : Nat, j < d → text ((n : Int) * 10080 + (j : Int) * 1440 + H * 60 + M) ≠ s)) (fun dv _ _ => 7 - (intOf dv).toNat)
          case atStart => exact ⟨0, Nat.zero_le _, rfl, (Fr.refl _ _).drewN _ |>.drewN _, fun j hj => absurd hj (by omega)⟩
          case round =>
            obtain ⟨d, hd, rfl, HI⟩ := hrel
            by_cases hd7 : d < 7
            · have R := fun w => rtext_any w ((n : Int) * 10080 + (d : Int) * 1440 + H * 60 + M)
              by_cases hts : text ((n : Int) * 10080 + (d : Int) * 1440 + H * 60 + M) = s
              · have hbb : (text ((n : Int) * 10080 + (d : Int) * 1440 + H * 60 + M) == s) = true := by simpa using hts
                have HP := hide (parsed_of s _ (unhide hs0) hts)
                generalize text ((n : Int) * 10080 + (d : Int) * 1440 + H * 60 + M) = TT at *
                clear hts HQ
                go_wp2_with fail
                refine (R _).mono ?_
                rintro e w3 ⟨rfl, hF3⟩
                have HF3 := hide ((unhide HI).1.trans hF3 (fun _ _ t => t))
                clear hF3 R HI
                go_wp2
                go_ret2
                refine ⟨?_, unhide HF3⟩
                obtain ⟨m, e1, hp⟩ := unhide HP
                rw [hp]
                show _ = Ending.returned (.tuple #[.int .i64 (m : Int), .int .i64 0])
                rw [← e1]
                rfl
              · have hbb : (text ((n : Int) * 10080 + (d : Int) * 1440 + H * 60 + M) == s) = false := by simpa using hts
                have HN : Hid (∀ j : Nat, j < d + 1 → text ((n : Int) * 10080 + (j : Int) * 1440 + H * 60 + M) ≠ s) := hide (fun j hj => by
                  by_cases e : j = d
                  · rw [e]; exact hts
                  · exact (unhide HI).2 j (by omega))
                generalize text ((n : Int) * 10080 + (d : Int) * 1440 + H * 60 + M) = TT at *
                clear hts
                go_wp2_with fail
                refine (R _).mono ?_
                rintro e w3 ⟨rfl, hF3⟩
                have HF3 := hide ((unhide HI).1.trans hF3 (fun _ _ t => t))
                clear hF3 R HI
                go_wp2
                exact ⟨⟨d + 1, by omega, by go_num, unhide HF3, unhide HN⟩, by simp [intOf]; omega⟩
            · obtain rfl : d = 7 := by omega
              have HP := hide (unhide HQ (unhide HI).2)
              have HF3 := hide (unhide HI).1
              clear HI HQ
              go_wp2
              go_ret2
              exact ⟨by rw [unhide HP]; rfl, unhide HF3⟩
      · have HP : Hid (parsed s = none) := hide (parsed_none (fun t ht e => by have h := unhide HX t ht e; have h2 := textN_length t; rw [e] at h2; omega))
        have hb : ((s.length : Int) == (i : Int) + 10) = false := by simp; omega
        by_cases hlt : i < s.length
        · have hv : ((⟨s.toArray⟩ : ByteArray)[i]'hlt).toNat = s[i].toNat := rfl
          have hc : s[i].toNat < 48 ∨ 57 < s[i].toNat ∨ (48 ≤ s[i].toNat ∧ s[i].toNat ≤ 57 ∧ 7 ≤ i) := by
            rcases Nat.lt_or_ge s[i].toNat 48 with h | h
            · exact .inl h
            · rcases Nat.lt_or_ge 57 s[i].toNat with h' | h'
              · exact .inr (.inl h')
              · refine .inr (.inr ⟨h, h', ?_⟩)
                rcases Nat.lt_or_ge i 7 with h2 | h2
                · exact absurd ⟨hlt, h, h', h2⟩ hgo
                · omega
          clear hgo HX
          generalize s[i].toNat = v at *
          rcases hc with hc | hc | ⟨hc1, hc2, hc3⟩
          · go_wp2
            go_ret2
            exact ⟨by rw [unhide HP]; rfl, Fr.refl _ _⟩
          · go_wp2
            go_ret2
            exact ⟨by rw [unhide HP]; rfl, Fr.refl _ _⟩
          · go_wp2
            go_ret2
            exact ⟨by rw [unhide HP]; rfl, Fr.refl _ _⟩
        · clear hgo HX
          go_wp2
          go_ret2
          exact ⟨by rw [unhide HP]; rfl, Fr.refl _ _⟩

end Go.Proofs.YtnnhhfajcecdkaaDoor
