/- The look at what lies within. -/
import Derived.Test.YthgkdpepgnoepaaT2
namespace Go.Proofs.Ythgkdpepgnoepaa
open Go.RowKit

def withinB (s o : Spn) : Bool := decide (o.fr ≤ s.fr) && decide (s.to ≤ o.to)
def noDearer (s o : Spn) : Bool := decide (s.single ≤ o.single) && decide (s.daily ≤ o.daily) && decide (s.weekly ≤ o.weekly)
def fits (o s : Spn) : Bool := !withinB s o || noDearer s o
def withinOk (l : List Spn) : Bool := l.all fun o => l.all fun s => fits o s

theorem isWithin_any (w : World) (s o : Spn) : Calls Try.prog 56 #[.agg #[.int .i64 s.fr, .int .i64 s.to, .int .i64 s.single, .int .i64 s.daily, .int .i64 s.weekly], .agg #[.int .i64 o.fr, .int .i64 o.to, .int .i64 o.single, .int .i64 o.daily, .int .i64 o.weekly]] w
    fun e w' => e = .returned (.bool (withinB s o)) ∧ Fr (fun _ => False) w w' := by
  unfold withinB
  obtain ⟨x0, x1, x2, x3, x4⟩ := s
  obtain ⟨y0, y1, y2, y3, y4⟩ := o
  by_cases h1 : y0 ≤ x0
  · by_cases h2 : x1 ≤ y1
    all_goals
      go_enter Try.func56, Try.ntmps56
      go_wp2
      go_ret
      exact ⟨by first | (simp; done) | (simp; omega) | simp_all, ((Fr.refl _ w).alloc _).alloc _⟩
  · go_enter Try.func56, Try.ntmps56
    go_wp2
    go_ret
    exact ⟨by first | (simp; done) | (simp; omega) | simp_all, ((Fr.refl _ w).alloc _).alloc _⟩

theorem rWithin_any (w : World) (s o : Spn) : Calls Try.prog 59 #[.agg #[.int .i64 s.fr, .int .i64 s.to, .int .i64 s.single, .int .i64 s.daily, .int .i64 s.weekly], .agg #[.int .i64 o.fr, .int .i64 o.to, .int .i64 o.single, .int .i64 o.daily, .int .i64 o.weekly]] w
    fun e w' => e = .returned (.bool (withinB s o)) ∧ Fr (fun _ => False) w w' := by
  unfold withinB
  obtain ⟨x0, x1, x2, x3, x4⟩ := s
  obtain ⟨y0, y1, y2, y3, y4⟩ := o
  by_cases h1 : y0 ≤ x0
  · by_cases h2 : x1 ≤ y1
    all_goals
      go_enter Try.func59, Try.ntmps59
      go_wp2
      go_ret
      exact ⟨by first | (simp; done) | (simp; omega) | simp_all, ((Fr.refl _ w).alloc _).alloc _⟩
  · go_enter Try.func59, Try.ntmps59
    go_wp2
    go_ret
    exact ⟨by first | (simp; done) | (simp; omega) | simp_all, ((Fr.refl _ w).alloc _).alloc _⟩

theorem noDearer_any (w : World) (s o : Spn) : Calls Try.prog 57 #[.agg #[.int .i64 s.fr, .int .i64 s.to, .int .i64 s.single, .int .i64 s.daily, .int .i64 s.weekly], .agg #[.int .i64 o.fr, .int .i64 o.to, .int .i64 o.single, .int .i64 o.daily, .int .i64 o.weekly]] w
    fun e w' => e = .returned (.bool (noDearer s o)) ∧ Fr (fun _ => False) w w' := by
  unfold noDearer
  obtain ⟨x0, x1, x2, x3, x4⟩ := s
  obtain ⟨y0, y1, y2, y3, y4⟩ := o
  by_cases h1 : x2 ≤ y2
  · by_cases h2 : x3 ≤ y3
    · by_cases h3 : x4 ≤ y4
      all_goals
        go_enter Try.func57, Try.ntmps57
        go_wp2
        go_ret
        exact ⟨by first | (simp; done) | (simp; omega) | simp_all, ((Fr.refl _ w).alloc _).alloc _⟩
    · go_enter Try.func57, Try.ntmps57
      go_wp2
      go_ret
      exact ⟨by first | (simp; done) | (simp; omega) | simp_all, ((Fr.refl _ w).alloc _).alloc _⟩
  · go_enter Try.func57, Try.ntmps57
    go_wp2
    go_ret
    exact ⟨by first | (simp; done) | (simp; omega) | simp_all, ((Fr.refl _ w).alloc _).alloc _⟩

theorem lookWithin_any (w : World) (ao : Option Addr) (cap : Nat) (l : List Spn) (h : CAt w ao (spV l)) (hl : (l.length + 1) * 40 ≤ 140737488355328) :
    Calls Try.prog 26 #[.slice ao l.length cap] w fun e w' => e = look (withinOk l) 70 ∧ Fr (fun _ => False) w w' := by
  have H := hide h
  have HW := isWithin_any
  have HD := noDearer_any
  have HE : Hid (withinOk l = l.all fun o => l.all fun s => fits o s) := rfl
  generalize withinOk l = y at *
  clear h
  go_enter Try.func26, Try.ntmps26
  go_wp2
  go_loopw [3, 5, 8, 12, 13, 14] (fun _ _ iv _ _ _ wr => ∃ (i : Nat), i ≤ l.length ∧ iv = .int .i64 i ∧ Hid (Fr (fun _ => False) w wr ∧ ((l.drop i).all fun o => l.all fun s => fits o s) = y)) (fun _ _ iv _ _ _ _ => l.length - (intOf iv).toNat)
  case atStart => exact ⟨0, Nat.zero_le _, rfl, Fr.refl _ _, by rw [unhide HE]; simp⟩
  case round =>
    obtain ⟨i, hi, rfl, HI⟩ := hrel
    by_cases hil : i < l.length
    · obtain ⟨b, off, rfl, c0, c1, c2, c3, c4⟩ := ((unhide H).keep (unhide HI).1).sp hil
      have ht := (unhide HI).2
      rw [List.drop_eq_getElem_cons hil, List.all_cons] at ht
      have HT := hide ht
      have HF := hide (unhide HI).1
      clear ht HI
      generalize l[i] = o at *
      have HO : Hid (∀ wq, Fr (fun _ => False) (wr.alloc (.cells #[.int .i64 o.fr, .int .i64 o.to, .int .i64 o.single, .int .i64 o.daily, .int .i64 o.weekly] 39)) wq → wq.cell? ⟨wr.heap.size, 0, none⟩ = some (.int .i64 o.fr) ∧ wq.cell? ⟨wr.heap.size, 1, none⟩ = some (.int .i64 o.to) ∧ wq.cell? ⟨wr.heap.size, 2, none⟩ = some (.int .i64 o.single) ∧ wq.cell? ⟨wr.heap.size, 3, none⟩ = some (.int .i64 o.daily) ∧ wq.cell? ⟨wr.heap.size, 4, none⟩ = some (.int .i64 o.weekly)) := by
        refine hide fun wq hq => ?_
        have hlt : wr.heap.size < (wr.alloc (.cells #[.int .i64 o.fr, .int .i64 o.to, .int .i64 o.single, .int .i64 o.daily, .int .i64 o.weekly] 39)).heap.size := by rw [heap_alloc]; exact Nat.lt_succ_self _
        refine ⟨?_, ?_, ?_, ?_, ?_⟩ <;> (rw [hq.cell hlt (fun t => t), World.cell?_alloc_new]; rfl)
      have HF1 := hide ((unhide HF).alloc (.cells #[.int .i64 o.fr, .int .i64 o.to, .int .i64 o.single, .int .i64 o.daily, .int .i64 o.weekly] 39))
      go_wp2
      generalize wr.alloc (.cells #[.int .i64 o.fr, .int .i64 o.to, .int .i64 o.single, .int .i64 o.daily, .int .i64 o.weekly] 39) = wo at *
      generalize wr.heap.size = N at *
      clear c0 c1 c2 c3 c4 HF
      go_loopw [5, 14] (fun _ kv wq => ∃ (k : Nat), k ≤ l.length ∧ kv = .int .i64 k ∧ Hid (Fr (fun _ => False) wo wq ∧ (l.drop k).all (fits o) = l.all (fits o))) (fun _ kv _ => l.length - (intOf kv).toNat)
      case atStart => exact ⟨0, Nat.zero_le _, rfl, Fr.refl _ _, by simp⟩
      case round =>
        obtain ⟨k, hk, rfl, HK⟩ := hrel
        by_cases hkl : k < l.length
        · obtain ⟨b', off', eA, d0, d1, d2, d3, d4⟩ := ((unhide H).keep ((unhide HF1).trans (unhide HK).1 (fun _ _ t => t))).sp hkl
          injection eA with eA
          injection eA with eA1 eA2
          subst eA1 eA2
          have hu := (unhide HK).2
          rw [List.drop_eq_getElem_cons hkl, List.all_cons] at hu
          have HU := hide hu
          have HF2 := hide (unhide HK).1
          clear hu HK
          generalize l[k] = s at *
          obtain ⟨o0, o1, o2, o3, o4⟩ := unhide HO _ ((unhide HF2).alloc (.cells #[.int .i64 s.fr, .int .i64 s.to, .int .i64 s.single, .int .i64 s.daily, .int .i64 s.weekly] 39))
          have HS : Hid (fits o s = (!withinB s o || noDearer s o)) := rfl
          have RW := fun w => HW w s o
          have RD := fun w => HD w s o
          generalize withinB s o = p at *
          generalize noDearer s o = q at *
          have HF2' := hide ((unhide HF2).alloc (.cells #[.int .i64 s.fr, .int .i64 s.to, .int .i64 s.single, .int .i64 s.daily, .int .i64 s.weekly] 39))
          have HG : Hid (∀ wz, Fr (fun _ => False) (wr.alloc (.cells #[.int .i64 s.fr, .int .i64 s.to, .int .i64 s.single, .int .i64 s.daily, .int .i64 s.weekly] 39)) wz → wz.cell? ⟨wr.heap.size, 0, none⟩ = some (.int .i64 s.fr) ∧ wz.cell? ⟨wr.heap.size, 1, none⟩ = some (.int .i64 s.to) ∧ wz.cell? ⟨wr.heap.size, 2, none⟩ = some (.int .i64 s.single) ∧ wz.cell? ⟨wr.heap.size, 3, none⟩ = some (.int .i64 s.daily) ∧ wz.cell? ⟨wr.heap.size, 4, none⟩ = some (.int .i64 s.weekly)) := by
            refine hide fun wz hq => ?_
            have hlt : wr.heap.size < (wr.alloc (.cells #[.int .i64 s.fr, .int .i64 s.to, .int .i64 s.single, .int .i64 s.daily, .int .i64 s.weekly] 39)).heap.size := by rw [heap_alloc]; exact Nat.lt_succ_self _
            refine ⟨?_, ?_, ?_, ?_, ?_⟩ <;> (rw [hq.cell hlt (fun t => t), World.cell?_alloc_new]; rfl)
          cases p with
          | false =>
            have HU' : Hid ((l.drop (k + 1)).all (fits o) = l.all (fits o)) := hide (by rw [← unhide HU, unhide HS]; rfl)
            clear HU HS HG
            go_wp2_with fail
            refine (RW _).mono ?_
            rintro e w2 ⟨rfl, hF2⟩
            have HF3 := hide ((unhide HF2').trans hF2 (fun _ _ t => t))
            clear hF2
            go_wp2_with fail
            refine (must_is (by first | (simp; done) | (simp; omega) | simp_all) 70 _).mono ?_
            rintro e w3 ⟨rfl, rfl⟩
            go_wp2
            exact ⟨⟨k + 1, by omega, by go_num, unhide HF3, unhide HU'⟩, by simp [intOf]; omega⟩
          | true =>
            cases q with
            | true =>
              have HU' : Hid ((l.drop (k + 1)).all (fits o) = l.all (fits o)) := hide (by rw [← unhide HU, unhide HS]; rfl)
              clear HU HS
              go_wp2_with fail
              refine (RW _).mono ?_
              rintro e w2 ⟨rfl, hF2⟩
              have HF3 := hide ((unhide HF2').trans hF2 (fun _ _ t => t))
              obtain ⟨p0, p1, p2, p3, p4⟩ := unhide HO _ (unhide HF3)
              obtain ⟨s0, s1, s2, s3, s4⟩ := unhide HG _ hF2
              clear hF2
              go_wp2_with fail
              refine (RD _).mono ?_
              rintro e w3 ⟨rfl, hF3⟩
              have HF4 := hide ((unhide HF3).trans hF3 (fun _ _ t => t))
              clear hF3
              go_wp2_with fail
              refine (must_is (by first | (simp; done) | (simp; omega) | simp_all) 70 _).mono ?_
              rintro e w4 ⟨rfl, rfl⟩
              go_wp2
              exact ⟨⟨k + 1, by omega, by go_num, unhide HF4, unhide HU'⟩, by simp [intOf]; omega⟩
            | false =>
              have HT' : Hid (y = false) := hide (by rw [← unhide HT, ← unhide HU, unhide HS]; rfl)
              clear HU HS
              go_wp2_with fail
              refine (RW _).mono ?_
              rintro e w2 ⟨rfl, hF2⟩
              have HF3 := hide ((unhide HF2').trans hF2 (fun _ _ t => t))
              obtain ⟨p0, p1, p2, p3, p4⟩ := unhide HO _ (unhide HF3)
              obtain ⟨s0, s1, s2, s3, s4⟩ := unhide HG _ hF2
              clear hF2
              go_wp2_with fail
              refine (RD _).mono ?_
              rintro e w3 ⟨rfl, hF3⟩
              have HF4 := hide ((unhide HF3).trans hF3 (fun _ _ t => t))
              clear hF3
              go_wp2_with fail
              refine (must_not (by first | (simp; done) | (simp; omega) | simp_all) 70 _).mono ?_
              rintro e w4 ⟨rfl, rfl⟩
              go_wp2
              exact ⟨rfl, by rw [unhide HT']; rfl, (unhide HF1).trans (unhide HF4) (fun _ _ t => t)⟩
        · obtain rfl : k = l.length := by omega
          have HU : Hid (l.all (fits o) = true) := hide (by rw [← (unhide HK).2, List.drop_length]; rfl)
          have HT' : Hid (((l.drop (i + 1)).all fun o => l.all fun s => fits o s) = y) := hide (by
            have h2 := unhide HT
            rw [show (l.all fun s => fits o s) = true from unhide HU] at h2
            exact h2)
          have HF := hide ((unhide HF1).trans (unhide HK).1 (fun _ _ t => t))
          clear HK HU HT HO HF1
          go_wp2
          exact ⟨⟨i + 1, by omega, by go_num, unhide HF, unhide HT'⟩, by simp [intOf]; omega⟩
    · obtain rfl : i = l.length := by omega
      have HT' : Hid (y = true) := hide (by rw [← (unhide HI).2, List.drop_length]; rfl)
      have HF := hide (unhide HI).1
      clear HI H HE
      go_wp2
      go_end0
      exact ⟨by rw [unhide HT']; rfl, unhide HF⟩

end Go.Proofs.Ythgkdpepgnoepaa
