import Derived.Test.YtmgejkenpfihmaaGreatJN3
import Derived.Test.YtmgejkenpfihmaaGreatE1
import Derived.Test.YtmgejkenpfihmaaGreatJNFG
import Derived.Laws.StructEq
import Derived.Test.YtmgejkenpfihmaaGreatQLX
import Derived.Deep.RegionHeld3
/- The document's own order of taps, their travel day, and which taps may be a token's: ints, Order, day, Right. -/
namespace Go.Proofs.YtmgejkenpfihmaaGreat
open Go.RowKit

theorem rints_any (w : World) (a b : Int) : Calls Tryz.prog 29 #[.int .i64 a, .int .i64 b] w fun e w' => e = .returned (.int .i64 (cmpI a b)) ∧ w' = w := by
  by_cases h1 : a < b
  · have e : cmpI a b = -1 := by simp [cmpI, h1]
    rw [e]
    clear e
    go_enter Tryz.func29, Tryz.ntmps29
    go_wp2
    go_ret
    exact ⟨rfl, rfl⟩
  · by_cases h2 : b < a
    · have e : cmpI a b = 1 := by simp [cmpI, h1, h2]
      rw [e]
      clear e
      go_enter Tryz.func29, Tryz.ntmps29
      go_wp2
      go_ret
      exact ⟨rfl, rfl⟩
    · have e : cmpI a b = 0 := by simp [cmpI, h1, h2]
      rw [e]
      clear e
      go_enter Tryz.func29, Tryz.ntmps29
      go_wp2
      go_ret
      exact ⟨rfl, rfl⟩

set_option maxHeartbeats 1000000 in
theorem rorder_anyJ (w : World) (a b : Tp) : Calls Tryz.prog 14 #[.agg (tpC a), .agg (tpC b)] w fun e w' => e = .returned (.int .i64 (ordI a b)) ∧ Fr (fun _ => False) w w' := by
  rw [← ord_eq]
  obtain ⟨d1, k1, t1, q1, p1, m1⟩ := a
  obtain ⟨d2, k2, t2, q2, p2, m2⟩ := b
  simp only [tpC]
  have R1 := hide (fun w => rints_any w m1 m2)
  have R2 := hide (fun w => rints_any w d1 d2)
  have R3 := hide (fun w => rints_any w k1 k2)
  generalize cmpI m1 m2 = x at *
  generalize cmpI d1 d2 = y at *
  generalize cmpI k1 k2 = z at *
  obtain ⟨v, hv⟩ : ∃ v, v = (w.alloc (.cells #[.int .i64 d1, .int .i64 k1, .string t1, .int .i64 q1, .int .i64 p1, .int .i64 m1] 24)).alloc (.cells #[.int .i64 d2, .int .i64 k2, .string t2, .int .i64 q2, .int .i64 p2, .int .i64 m2] 24) := ⟨_, rfl⟩
  have b1 : v.cell? ⟨w.heap.size, 0, none⟩ = some (.int .i64 d1) := by rw [hv]; simp [go_sem]
  have b2 : v.cell? ⟨w.heap.size, 1, none⟩ = some (.int .i64 k1) := by rw [hv]; simp [go_sem]
  have b3 : v.cell? ⟨w.heap.size, 5, none⟩ = some (.int .i64 m1) := by rw [hv]; simp [go_sem]
  have b4 : v.cell? ⟨w.heap.size + 1, 0, none⟩ = some (.int .i64 d2) := by rw [hv]; simp [go_sem]
  have b5 : v.cell? ⟨w.heap.size + 1, 1, none⟩ = some (.int .i64 k2) := by rw [hv]; simp [go_sem]
  have b6 : v.cell? ⟨w.heap.size + 1, 5, none⟩ = some (.int .i64 m2) := by rw [hv]; simp [go_sem]
  have HF : Hid (Fr (fun _ => False) w v) := hide (by rw [hv]; exact ((Fr.refl _ w).alloc _).alloc _)
  have HV := hide hv
  clear hv
  by_cases hx : x = 0
  · subst hx
    by_cases hy : y = 0
    · subst hy
      have e : or3 0 0 z = z := by by_cases hz : z = 0 <;> simp [or3, hz]
      rw [e]
      clear e
      go_enter Tryz.func14, Tryz.ntmps14
      go_upto_region 1 with (fail)
      rw [← unhide HV]
      clear HV
      go_wp2_with fail
      refine (unhide R1 v).mono ?_
      rintro e w1 ⟨rfl, rfl⟩
      go_wp2_with fail
      refine (unhide R2 _).mono ?_
      rintro e w2 ⟨rfl, rfl⟩
      go_wp2_with fail
      refine (unhide R3 _).mono ?_
      rintro e w3 ⟨rfl, rfl⟩
      go_wp2
      go_ret
      exact ⟨rfl, unhide HF⟩
    · have hb : (y == 0) = false := by simp [hy]
      have e : or3 0 y z = y := by simp [or3, hy]
      rw [e]
      clear e
      go_enter Tryz.func14, Tryz.ntmps14
      go_upto_region 1 with (fail)
      rw [← unhide HV]
      clear HV
      go_wp2_with fail
      refine (unhide R1 v).mono ?_
      rintro e w1 ⟨rfl, rfl⟩
      go_wp2_with fail
      refine (unhide R2 _).mono ?_
      rintro e w2 ⟨rfl, rfl⟩
      clear hy
      go_wp2
      go_ret
      exact ⟨rfl, unhide HF⟩
  · have hb : (x == 0) = false := by simp [hx]
    have e : or3 x y z = x := by simp [or3, hx]
    rw [e]
    clear e
    go_enter Tryz.func14, Tryz.ntmps14
    go_upto_region 1 with (fail)
    rw [← unhide HV]
    clear HV
    go_wp2_with fail
    refine (unhide R1 v).mono ?_
    rintro e w1 ⟨rfl, rfl⟩
    clear hx
    go_wp2
    go_ret
    exact ⟨rfl, unhide HF⟩

theorem rdayJ_any (w : World) (a : Tp) : Calls Tryz.prog 25 #[.agg (tpC a)] w fun e w' => e = .returned (.int .i64 (dayV a.time)) ∧ Fr (fun _ => False) w w' := by
  obtain ⟨d1, k1, t1, q1, p1, m1⟩ := a
  simp only [tpC]
  have R1 := hide (fun w => rday_any w m1)
  generalize dayV m1 = x at *
  go_enter Tryz.func25, Tryz.ntmps25
  go_wp2_with fail
  refine (unhide R1 _).mono ?_
  rintro e w1 ⟨rfl, rfl⟩
  go_wp2
  go_ret
  exact ⟨rfl, (Fr.refl _ _).alloc _⟩

end Go.Proofs.YtmgejkenpfihmaaGreat

/- The document's own Right: which taps may be a token's. -/
namespace Go.Proofs.YtmgejkenpfihmaaGreat
open Go.RowKit

set_option maxHeartbeats 2000000 in
theorem rrightJ_any (w : World) (ao : Option Addr) (cap : Nat) (l : List Tp) (h : CAt w ao (tpV l)) (hl : l.length ≤ 4398046511104) :
    Calls Tryz.prog 12 #[.slice ao l.length cap] w fun e w' => e = .returned (.int .i64 (rightT l)) ∧ Fr (fun _ => False) w w' := by
  have H := hide h
  clear h
  by_cases hlong : 2000 < l.length
  · have HR : Hid (rightT l = 2) := hide (by simp [rightT, hlong])
    rw [unhide HR]
    clear HR
    go_enter Tryz.func12, Tryz.ntmps12
    go_wp2
    go_ret
    exact ⟨rfl, Fr.refl _ _⟩
  · have HR : Hid (rightT l = rgt none l) := hide (by simp [rightT, hlong])
    rw [unhide HR]
    obtain ⟨r, Hr⟩ : ∃ r, Hid (rgt none l = r) := ⟨_, rfl⟩
    rw [unhide Hr]
    clear HR
    go_enter Tryz.func12, Tryz.ntmps12
    go_wp2
    go_loopw [3, 4] (fun iv _ wr => ∃ (i : Nat), i ≤ l.length ∧ iv = .int .i64 i ∧ Hid (Fr (fun _ => False) w wr ∧ rgt (prevT l i) (l.drop i) = r)) (fun iv _ _ => l.length - (intOf iv).toNat)
    case atStart => exact ⟨0, Nat.zero_le _, rfl, Fr.refl _ _, unhide Hr⟩
    case round =>
      obtain ⟨i, hi, rfl, HI⟩ := hrel
      by_cases hil : i < l.length
      · obtain ⟨b, off, rfl, c0, c1, c2, c3, c4, c5⟩ := ((unhide H).keep (unhide HI).1).tp hil
        have ht := (unhide HI).2
        rw [List.drop_eq_getElem_cons hil] at ht
        have HM := hide (fun w' => TapRight_any l[i] w')
        have HP : Hid (prevT l (i + 1) = some l[i]) := hide (by simp [prevT, hil])
        obtain ⟨x, hx⟩ : ∃ x, l[i] = x := ⟨_, rfl⟩
        simp only [hx] at HM HP ht c0 c1 c2 c3 c4 c5
        have HXI := hide hx
        obtain ⟨d1, k1, t1, q1, p1, m1⟩ := x
        simp only [tpC] at HM c0 c1 c2 c3 c4 c5
        cases hok : tapOk ⟨d1, k1, t1, q1, p1, m1⟩ with
        | false =>
          have HE : Hid (r = 80) := hide (by rw [← ht]; cases hq : prevT l i <;> simp [rgt, hok])
          simp only [hok] at HM
          clear ht hok HP hx
          go_wp2_with fail
          refine (unhide HM _).mono ?_
          rintro e w1 ⟨rfl, hF⟩
          have HF : Hid (Fr (fun _ => False) w w1) := hide ((unhide HI).1.trans hF (fun _ _ t => t))
          clear hF HM
          go_wp2
          go_ret
          exact ⟨by rw [unhide HE]; rfl, unhide HF⟩
        | true =>
          simp only [hok] at HM
          have HIF := hide (unhide HI).1
          have HT := hide ht
          clear ht hx HI
          go_wp2_with fail
          refine (unhide HM _).mono ?_
          rintro e w1 ⟨rfl, hF⟩
          have HF : Hid (Fr (fun _ => False) w w1) := hide ((unhide HIF).trans hF (fun _ _ t => t))
          clear hF HM c0 c1 c2 c3 c4 c5 HIF
          rcases Nat.eq_zero_or_pos i with h0 | h0
          · subst h0
            have HN : Hid (rgt (prevT l (0 + 1)) (l.drop (0 + 1)) = r) := hide (by
              rw [unhide HP, ← unhide HT]
              show _ = rgt none _
              simp [rgt, hok])
            clear HT HP hok HXI
            go_wp2_with fail
            go_quiet (fail)
            go_wp2
            exact ⟨⟨0 + 1, by omega, by go_num, (unhide HF).drewN _, unhide HN⟩, by simp [intOf]; omega⟩
          · obtain ⟨k, rfl⟩ : ∃ k, i = k + 1 := ⟨i - 1, by omega⟩
            have hkl : k < l.length := by omega
            obtain ⟨b', off', hao, a0, a1, a2, a3, a4, a5⟩ := ((unhide H).keep (unhide HF)).tp hkl
            injection hao with hao
            injection hao with hb' ho'
            subst hb' ho'
            obtain ⟨b'', off'', hao, c0, c1, c2, c3, c4, c5⟩ := ((unhide H).keep (unhide HF)).tp hil
            injection hao with hao
            injection hao with hb' ho'
            subst hb' ho'
            simp only [unhide HXI] at c0 c1 c2 c3 c4 c5
            have HP2 : prevT l (k + 1) = some l[k] := by simp [prevT, hkl]
            have HM := hide (fun w' => rorder_anyJ w' l[k] ⟨d1, k1, t1, q1, p1, m1⟩)
            have HT2 := unhide HT
            rw [HP2] at HT2
            clear HT HP2
            obtain ⟨y, hy⟩ : ∃ y, l[k] = y := ⟨_, rfl⟩
            simp only [hy] at HM HT2 a0 a1 a2 a3 a4 a5
            clear hy
            have HS : Hid (rgt (some y) (⟨d1, k1, t1, q1, p1, m1⟩ :: l.drop (k + 1 + 1)) = if ((t1 == y.tok) && decide (ordI y ⟨d1, k1, t1, q1, p1, m1⟩ < 0)) = true then rgt (some ⟨d1, k1, t1, q1, p1, m1⟩) (l.drop (k + 1 + 1)) else 170) := hide (by simp [rgt, hok, folB])
            obtain ⟨d2, k2, t2, q2, p2, m2⟩ := y
            simp only [tpC] at HM a0 a1 a2 a3 a4 a5
            simp only at HS
            generalize ordI ⟨d2, k2, t2, q2, p2, m2⟩ ⟨d1, k1, t1, q1, p1, m1⟩ = ov at *
            have HT3 : Hid ((if ((t1 == t2) && decide (ov < 0)) = true then rgt (some ⟨d1, k1, t1, q1, p1, m1⟩) (l.drop (k + 1 + 1)) else 170) = r) := hide (by rw [← unhide HS]; exact HT2)
            have HKI : Hid (k + 1 < l.length) := hide hil
            clear HT2 HS hok h0 HXI
            obtain ⟨Z, hZ⟩ : ∃ Z : Int, ((k + 1 : Nat) : Int) = Z := ⟨_, rfl⟩
            have hw1 : IntKind.i64.wrap (Z - 1) = (k : Int) := by rw [← hZ, IntKind.wrap_i64]; omega
            have hx0 : (0 : Int) ≤ (k : Int) := by omega
            have hx1 : (k : Int) < (l.length : Int) := by omega
            have hx2 : decide ((0 : Int) ≤ (k : Int)) = true := by simp
            have hx3 : decide ((k : Int) < (l.length : Int)) = true := by simp; omega
            have hx4 : ((k : Int)).toNat = k := by simp
            have hy0 : (0 : Int) ≤ Z := by omega
            have hy1 : Z < (l.length : Int) := by omega
            have hy2 : decide ((0 : Int) ≤ Z) = true := by simp; omega
            have hy3 : decide (Z < (l.length : Int)) = true := by simp; omega
            have hy4 : Z.toNat = k + 1 := by omega
            have hg : decide ((0 : Int) < Z) = true := by rw [← hZ]; simp
            rw [hZ]
            have HZ := hide hZ
            clear hZ hi hil
            have HKP : Hid (∀ u, Fr (fun _ => False) w1 u → u.cell? ⟨b, off + (k + 1) * 6, none⟩ = some (.int .i64 d1) ∧ u.cell? ⟨b, off + (k + 1) * 6 + 1, none⟩ = some (.int .i64 k1) ∧ u.cell? ⟨b, off + (k + 1) * 6 + 2, none⟩ = some (.string t1) ∧ u.cell? ⟨b, off + (k + 1) * 6 + 3, none⟩ = some (.int .i64 q1) ∧ u.cell? ⟨b, off + (k + 1) * 6 + 4, none⟩ = some (.int .i64 p1) ∧ u.cell? ⟨b, off + (k + 1) * 6 + 5, none⟩ = some (.int .i64 m1) ∧ u.cell? ⟨b, off + k * 6, none⟩ = some (.int .i64 d2) ∧ u.cell? ⟨b, off + k * 6 + 1, none⟩ = some (.int .i64 k2) ∧ u.cell? ⟨b, off + k * 6 + 2, none⟩ = some (.string t2) ∧ u.cell? ⟨b, off + k * 6 + 3, none⟩ = some (.int .i64 q2) ∧ u.cell? ⟨b, off + k * 6 + 4, none⟩ = some (.int .i64 p2) ∧ u.cell? ⟨b, off + k * 6 + 5, none⟩ = some (.int .i64 m2)) := hide (fun u hf => by
              have f : ∀ {a : Addr} {v : Value}, w1.cell? a = some v → u.cell? a = some v := fun {a v} e => (hf.cell (World.block_lt_of_cell? _ _ e) (fun t => t)).trans e
              exact ⟨f c0, f c1, f c2, f c3, f c4, f c5, f a0, f a1, f a2, f a3, f a4, f a5⟩)
            obtain ⟨eb, he⟩ : ∃ b, (t1 == t2) = b := ⟨_, rfl⟩
            have he2 : (t1.toList == t2.toList) = eb := by rw [← beq_toListBytes]; exact he
            rw [he] at HT3
            clear he
            cases eb with
            | true =>
              have he3 : (t1.toList != t2.toList) = false := by simp only [bne, he2]; rfl
              by_cases hov : ov < 0
              · have HN : Hid (rgt (prevT l (k + 1 + 1)) (l.drop (k + 1 + 1)) = r) := hide (by rw [unhide HP]; have := unhide HT3; simpa [hov] using this)
                have hov2 : ¬ (0 : Int) ≤ ov := by omega
                have hov3 : decide ((0 : Int) ≤ ov) = false := by simp; omega
                go_wp2_with fail
                go_region_held3 (fun u => u.cell? ⟨b, off + (k + 1) * 6, none⟩ = some (.int .i64 d1) ∧ u.cell? ⟨b, off + (k + 1) * 6 + 1, none⟩ = some (.int .i64 k1) ∧ u.cell? ⟨b, off + (k + 1) * 6 + 2, none⟩ = some (.string t1) ∧ u.cell? ⟨b, off + (k + 1) * 6 + 3, none⟩ = some (.int .i64 q1) ∧ u.cell? ⟨b, off + (k + 1) * 6 + 4, none⟩ = some (.int .i64 p1) ∧ u.cell? ⟨b, off + (k + 1) * 6 + 5, none⟩ = some (.int .i64 m1) ∧ u.cell? ⟨b, off + k * 6, none⟩ = some (.int .i64 d2) ∧ u.cell? ⟨b, off + k * 6 + 1, none⟩ = some (.int .i64 k2) ∧ u.cell? ⟨b, off + k * 6 + 2, none⟩ = some (.string t2) ∧ u.cell? ⟨b, off + k * 6 + 3, none⟩ = some (.int .i64 q2) ∧ u.cell? ⟨b, off + k * 6 + 4, none⟩ = some (.int .i64 p2) ∧ u.cell? ⟨b, off + k * 6 + 5, none⟩ = some (.int .i64 m2)) ((refine unhide HKP _ ?_; repeat (first | (with_reducible exact Fr.refl _ _) | (with_reducible refine Fr.drew ?_) | (with_reducible refine Fr.trans ?_ (unhide HF2) (fun _ _ t => t)))))
                  ((go_at_call 14; refine (unhide HM _).mono ?_; rintro e w2 ⟨rfl, hF2⟩; have HF2 := hide hF2; clear hF2))
                have HF3 : Hid (Fr (fun _ => False) w w2) := hide ((unhide HF).trans (Fr.trans ((Fr.refl (fun _ => False) w1).drew) (unhide HF2) (fun _ _ t => t)) (fun _ _ t => t))
                clear HF2 HF HKP HM
                obtain rfl := unhide HZ
                clear HZ hw1 hg hy0 hy1 hy2 hy3 hy4
                go_wp2
                exact ⟨⟨k + 1 + 1, unhide HKI, by go_num, unhide HF3, unhide HN⟩, by have := unhide HKI; simp [intOf]; omega⟩
              · have HE : Hid (r = 170) := hide (by have := unhide HT3; simpa [hov] using this.symm)
                have hov2 : (0 : Int) ≤ ov := by omega
                have hov3 : decide ((0 : Int) ≤ ov) = true := by simp; omega
                go_wp2_with fail
                go_region_held3 (fun u => u.cell? ⟨b, off + (k + 1) * 6, none⟩ = some (.int .i64 d1) ∧ u.cell? ⟨b, off + (k + 1) * 6 + 1, none⟩ = some (.int .i64 k1) ∧ u.cell? ⟨b, off + (k + 1) * 6 + 2, none⟩ = some (.string t1) ∧ u.cell? ⟨b, off + (k + 1) * 6 + 3, none⟩ = some (.int .i64 q1) ∧ u.cell? ⟨b, off + (k + 1) * 6 + 4, none⟩ = some (.int .i64 p1) ∧ u.cell? ⟨b, off + (k + 1) * 6 + 5, none⟩ = some (.int .i64 m1) ∧ u.cell? ⟨b, off + k * 6, none⟩ = some (.int .i64 d2) ∧ u.cell? ⟨b, off + k * 6 + 1, none⟩ = some (.int .i64 k2) ∧ u.cell? ⟨b, off + k * 6 + 2, none⟩ = some (.string t2) ∧ u.cell? ⟨b, off + k * 6 + 3, none⟩ = some (.int .i64 q2) ∧ u.cell? ⟨b, off + k * 6 + 4, none⟩ = some (.int .i64 p2) ∧ u.cell? ⟨b, off + k * 6 + 5, none⟩ = some (.int .i64 m2)) ((refine unhide HKP _ ?_; repeat (first | (with_reducible exact Fr.refl _ _) | (with_reducible refine Fr.drew ?_) | (with_reducible refine Fr.trans ?_ (unhide HF2) (fun _ _ t => t)))))
                  ((go_at_call 14; refine (unhide HM _).mono ?_; rintro e w2 ⟨rfl, hF2⟩; have HF2 := hide hF2; clear hF2))
                have HF3 : Hid (Fr (fun _ => False) w w2) := hide ((unhide HF).trans (Fr.trans ((Fr.refl (fun _ => False) w1).drew) (unhide HF2) (fun _ _ t => t)) (fun _ _ t => t))
                clear HF2 HF HKP HM
                obtain rfl := unhide HZ
                clear HZ hw1 hg hy0 hy1 hy2 hy3 hy4
                go_wp2
                go_ret
                exact ⟨by rw [unhide HE]; rfl, unhide HF3⟩
            | false =>
              have he3 : (t1.toList != t2.toList) = true := by simp only [bne, he2]; rfl
              have HE : Hid (r = 170) := hide (by have := unhide HT3; simpa using this.symm)
              go_wp2_with fail
              go_quiet (fail)
              go_wp2
              go_ret
              exact ⟨by rw [unhide HE]; rfl, (unhide HF).drewN _⟩
      · obtain rfl : i = l.length := by omega
        have ht := (unhide HI).2
        rw [List.drop_length] at ht
        have HN : Hid (r = 0) := hide (by rw [← ht]; cases prevT l l.length <;> rfl)
        have HF := hide (unhide HI).1
        clear ht HI H
        go_wp2
        go_ret
        exact ⟨by rw [unhide HN]; rfl, unhide HF⟩

end Go.Proofs.YtmgejkenpfihmaaGreat

/- The law's own Lent and Kept: taps in memory of their own, with a mark behind them. -/
namespace Go.Proofs.YtmgejkenpfihmaaGreat
open Go.RowKit

theorem eqTapJ (w : World) (a b d e f : Int) (c : ByteArray) : (Op.equalIn 10000 24 (.agg #[.int .i64 a, .int .i64 b, .string c, .int .i64 d, .int .i64 e, .int .i64 f]) (.agg #[.int .i64 a, .int .i64 b, .string c, .int .i64 d, .int .i64 e, .int .i64 f])).run Tryz.prog w = .ok true w := by
  have u3 := Tryz.underlying3
  have u4 := Tryz.underlying9
  have hS : Tryz.prog.underlying 24 = some (.struct (Tryz.prog.fieldsOf 24)) := by kernel_rfl
  have hp : Tryz.prog.stoodInHeld 24 = false := by kernel_rfl
  rw [show (10000 : Nat) = 9999 + 1 from rfl, run_equalIn_agg w 9999 24 _ _ hS hp]
  simp only [Program.fieldsOf, Tryz.underlying24]
  go_simp

abbrev awTok : ByteArray := ⟨#[97, 98, 99, 100, 101, 102, 103, 104]⟩
abbrev awBs : List UInt8 := [0, 1, 0, 0, 0, 2, 97, 98, 99, 100, 101, 102, 103, 104, 1, 1, 2, 0, 0, 0, 5]

def tk7 : Tp := ⟨-7, 0, ⟨#[]⟩, 0, 0, 0⟩
theorem tpL_one (t : Tp) : ∀ u ∈ tpL t, u.oneCell' = true := fun u hu => tpV_one [t] u (by simpa [tpV] using hu)
theorem tpV_snoc (l : List Tp) (t : Tp) : tpV (l ++ [t]) = tpV l ++ tpL t := by simp [tpV]

theorem KRow.made0T (w : World) (z : Array Value) (n k s : Nat) (hs : s = n * k) (hn : n ≤ maxLen) (e : TypeId) : KRow (w.alloc (.cells (madeCells z s) e)) (some ⟨w.heap.size, 0, none⟩) n w.heap.size k [] := by
  subst hs
  refine ⟨Nat.zero_le _, hn, fun _ => rfl, fun j hj => ⟨?_, World.frozen?_alloc_new _ _ _ _⟩, fun j hj => absurd hj (by simp), fun u hu => by cases hu⟩
  rw [World.cell?_alloc_new, Array.getElem?_eq_getElem (by rw [size_madeCells]; exact hj)]
  rfl

set_option maxRecDepth 20000 in
theorem slice_uptoT (g n m cap : Nat) (h : n ≤ cap) (hc : 0 < cap) (u : World) : (Instr.slice 22 (.slice (some ⟨g, 0, none⟩) m cap) none (some (.int .i64 (n : Int))) none).run Tryz.prog u = .ok (.slice (some ⟨g, 0, none⟩) n cap) u := by
  rw [run_slice_h (P := Tryz.prog) (w := u) 22 (some ⟨g, 0, none⟩) m cap Tryz.underlying22 .i64 (n : Int) (by omega) (by omega)]
  have e : (.slice (some ⟨g, 0, none⟩) n cap : Value) = sliced (some ⟨g, 0, none⟩) 0 n cap 6 := by
    unfold sliced
    rw [if_neg (by omega)]
    simp [Addr.add_lit]
  rw [e]
  rfl

theorem KRow.frontT {w : World} {ao : Option Addr} {cap g k : Nat} {vs us : List Value} (h : KRow w ao cap g k (vs ++ us)) (hc : 0 < cap) : CAt w ao vs := fun _ =>
  ⟨g, 0, h.ad hc, fun j hj => by rw [Nat.zero_add, h.cells j (by rw [List.length_append]; omega), List.getElem_append_left hj]⟩

theorem tpV_cell {w : World} {ao : Option Addr} {cap g : Nat} {l : List Tp} (h : KRow w ao cap g 6 (tpV l)) {k : Nat} {b : Tp} (hb : l[k]? = some b) : ∀ c (_ : c < 6) v, (tpL b)[c]? = some v → w.cell? ⟨g, k * 6 + c, none⟩ = some v := fun c hc v hv => by
  have hk := (List.getElem?_eq_some_iff.1 hb).1
  have hl := tpV_length l
  have h1 := h.cells (k * 6 + c) (by omega)
  have h2 := flat_get tpL 6 (fun _ => rfl) l k hk c hc
  have h3 : l[k] = b := by rw [List.getElem?_eq_getElem hk] at hb; exact Option.some.inj hb
  rw [h3, hv] at h2
  rw [h1]
  have h4 : (tpV l)[k * 6 + c]? = some v := h2
  rw [List.getElem?_eq_getElem (by omega)] at h4
  exact h4

/-- Taps that were lent. -/
structure LtT (w w' : World) (l : List Tp) (ci gi : Nat) : Prop where
  row : KRow w' (some ⟨gi, 0, none⟩) ci gi 6 (tpV (l ++ [tk7]))
  pos : 0 < ci
  new : w.heap.size ≤ gi
  fr : Fr (fun _ => False) w w'

set_option maxHeartbeats 1000000 in
set_option maxRecDepth 20000 in
theorem lent_anyJ (w : World) (ao0 : Option Addr) (cap0 : Nat) (l : List Tp) (hl : CAt w ao0 (tpV l)) (hn : (l.length + 1) * 56 ≤ 140737488355328) :
    Calls Tryz.prog 6 #[.slice ao0 l.length cap0] w fun e w' => ∃ ci gi, e = .returned (.slice (some ⟨gi, 0, none⟩) l.length ci) ∧ LtT w w' l ci gi := by
  obtain ⟨info, hi, hz, hs, hy⟩ := info_of3 tInfo
  generalize hzv : (Value.agg #[.int .i64 0, .int .i64 0, .string ⟨#[]⟩, .int .i64 0, .int .i64 0, .int .i64 0]) = z at hz
  have hzc : z.cells.size = 6 := by rw [← hzv]; rfl
  have HIN : Hid (Tryz.prog.info? 24 = some info ∧ info.zero = some z ∧ z.cells.size = 6 ∧ info.size = 6 ∧ info.bytes = 56) := hide ⟨hi, hz, hzc, hs, hy⟩
  have hmk : ∀ u : World, (Instr.makeSlice 22 (.int .i64 0) (.int .i64 ((l.length : Int) + 1))).run Tryz.prog u = .ok (.slice (some ⟨u.heap.size, 0, none⟩) 0 (l.length + 1)) (u.alloc (.cells (madeCells z.cells ((l.length + 1) * info.size)) 24)) := fun u => by
    have := run_make (P := Tryz.prog) u 22 24 info z Tryz.underlying22 hi hz .i64 .i64 0 ((l.length : Int) + 1) (by omega) (by omega) (by rw [hy]; omega) (by omega)
    rw [show ((l.length : Int) + 1).toNat = l.length + 1 by omega, show (0 : Int).toNat = 0 from rfl] at this
    exact this
  have HM0 := hide (fun (u : World) => KRow.made0T u z.cells (l.length + 1) 6 ((l.length + 1) * info.size) (by rw [hs]) (by simp only [maxLen]; omega) 24)
  have HLN : Hid (l.length + 1 ≤ 140737488355328) := hide (by omega)
  have hln : (l.length : Int) + 1 ≤ 140737488355328 := by omega
  have HNN := hide hn
  generalize madeCells z.cells ((l.length + 1) * info.size) = mc at *
  clear hz hs hy hzc hi hn hzv
  have HIA := hide ((unhide HM0 w))
  have HFA : Hid (Fr (fun _ => False) w (w.alloc (.cells mc 24))) := hide ((Fr.refl _ w).alloc _)
  have HSR := hide (CAt.src (hl.keep (unhide HFA)) 22 24 6 l.length cap0 (by omega) Tryz.underlying22 (tpV_length _) (tpV_one _))
  clear HM0 hl
  go_enter Tryz.func6, Tryz.ntmps6
  go_wp2_with (at_builtin; refine wpList_append_krow _ rfl (.tmp 7) (.tmp 8) 22 22 rfl 24 info _ 6 (by omega) Tryz.underlying22 (unhide HIN).1 (unhide HIN).2.1 (unhide HIN).2.2.1 (unhide HIN).2.2.2.1 rfl (unhide HIA) rfl _ (tpV l) l.length rfl (unhide HSR) (by rw [(unhide HIN).2.2.2.2]; have := unhide HNN; omega) (by have := unhide HLN; omega) ?_)
  intro ao1 cap1 w3 g1 hK hG
  have hF : Fr (fun _ => False) w w3 := by
    rcases hG with ⟨_, _, f⟩ | ⟨_, _, f⟩
    · exact (unhide HFA).trans f (fun q hq e => by have := e.1; omega)
    · exact (unhide HFA).trans f (fun _ _ t => t)
  have HG1 : Hid (w.heap.size ≤ g1 ∧ 0 < cap1) := hide (by
    have hs := (unhide HFA).size
    rcases hG with ⟨e1, e2, _⟩ | ⟨e1, e2, _⟩
    · exact ⟨by omega, by omega⟩
    · exact ⟨by omega, e2⟩)
  have HI0 := hide hK
  have HF := hide hF
  clear hK hG HIA HSR HFA hmk hF
  have HIA := hide ((unhide HI0).keep (by omega) ((Fr.refl (fun _ => False) w3).alloc (.cells #[.int .i64 (-7), .int .i64 0, .string ⟨#[]⟩, .int .i64 0, .int .i64 0, .int .i64 0] 24)))
  have HFA : Hid (Fr (fun _ => False) w3 (w3.alloc (.cells #[.int .i64 (-7), .int .i64 0, .string ⟨#[]⟩, .int .i64 0, .int .i64 0, .int .i64 0] 24))) := hide ((Fr.refl _ w3).alloc _)
  have HSR := hide (src_new' w3 (tpL tk7) 22 24 6 Tryz.underlying22 rfl (tpL_one _) (W := w3.alloc (.cells #[.int .i64 (-7), .int .i64 0, .string ⟨#[]⟩, .int .i64 0, .int .i64 0, .int .i64 0] 24)) (fun j => by rw [World.cell?_alloc_new]; exact List.getElem?_toArray.symm ▸ rfl))
  go_wp2_with (at_builtin; refine wpList_append_krow _ rfl (.tmp 10) (.tmp 12) 22 22 rfl 24 info _ 6 (by omega) Tryz.underlying22 (unhide HIN).1 (unhide HIN).2.1 (unhide HIN).2.2.1 (unhide HIN).2.2.2.1 rfl (unhide HIA) (tpV_length l) _ (tpL tk7) 1 rfl (unhide HSR) (by rw [(unhide HIN).2.2.2.2]; have := unhide HNN; omega) (by have := unhide HLN; omega) ?_)
  intro ao2 cap2 w4 g2 hK hG
  have hS : Fr (fun q => q = g1) w3 w4 := by
    rcases hG with ⟨_, _, f⟩ | ⟨_, _, f⟩
    · exact (((unhide HFA).mono (fun _ _ t => t.elim)).trans f (fun q _ e => e.1))
    · exact ((unhide HFA).trans f (fun _ _ t => t)).mono (fun _ _ t => t.elim)
  have hG2 : w.heap.size ≤ g2 ∧ 0 < cap2 := by
    have hs := (unhide HFA).size
    have := unhide HG1
    have := (unhide HF).size
    rcases hG with ⟨e1, e2, _⟩ | ⟨e1, e2, _⟩
    · exact ⟨by omega, by omega⟩
    · exact ⟨by omega, e2⟩
  have hrow : KRow w4 ao2 cap2 g2 6 (tpV (l ++ [tk7])) := by rw [tpV_snoc]; exact hK
  obtain rfl : ao2 = some ⟨g2, 0, none⟩ := hrow.ad hG2.2
  have HR : Hid (LtT w w4 l cap2 g2) := hide ⟨hrow, hG2.2, hG2.1, (unhide HF).trans hS (fun q hq e => by have := (unhide HG1).1; omega)⟩
  have hsl := fun u => slice_uptoT g2 l.length (l.length + 1) cap2 (by have a := hrow.le; rw [tpV_length, List.length_append, List.length_singleton] at a; omega) hG2.2 u
  clear hrow hG2 hS hK hG HIA HSR HFA HI0 HG1 HIN HF
  go_wp2
  go_ret
  exact ⟨_, _, rfl, unhide HR⟩

set_option maxHeartbeats 2000000 in
set_option maxRecDepth 20000 in
theorem kept_anyJ (w : World) (ao0 : Option Addr) (cap0 ci gi : Nat) (l : List Tp) (hl : CAt w ao0 (tpV l)) (hn : (l.length + 1) * 56 ≤ 140737488355328) (hr : KRow w (some ⟨gi, 0, none⟩) ci gi 6 (tpV (l ++ [tk7]))) (hc : 0 < ci) :
    Calls Tryz.prog 9 #[.slice (some ⟨gi, 0, none⟩) l.length ci, .slice ao0 l.length cap0] w fun e w' => e = .returned (.bool true) ∧ Fr (fun q => q = gi) w w' := by
  have q1 : Tryz.prog.eqGuardType Tryz.prog.depth 24 = false := by kernel_rfl
  have q2 := eqTapJ
  have hle := hr.le
  rw [tpV_length, List.length_append, List.length_singleton] at hle
  have hsl := fun u => slice_uptoT gi (l.length + 1) l.length ci (by omega) hc u
  rw [show ((l.length + 1 : Nat) : Int) = (l.length : Int) + 1 by simp] at hsl
  have m7 : w.cell? ⟨gi, l.length * 6, none⟩ = some (.int .i64 (-7)) := tpV_cell hr (k := l.length) (b := tk7) (by simp) 0 (by omega) _ rfl
  have hlt3 : (l.length : Int) < (l.length : Int) + 1 := by omega
  have hln : l.length ≤ 140737488355327 := by omega
  have HL := hide (fun (u : World) (hu : Fr (fun _ => False) w u) => hl.keep hu)
  have HR := hide hr
  have HLE := hide hle
  clear hl hr hc hle hn
  go_enter Tryz.func9, Tryz.ntmps9
  go_upto_region 4 with (fail)
  clear m7 hsl
  have HV0 : Hid (Fr (fun _ => False) w w) := hide (Fr.refl _ _)
  go_loopw [6, 7] (fun sv iv wr => ∃ i : Nat, i ≤ l.length ∧ sv = .bool true ∧ iv = .int .i64 i ∧ Hid (Fr (fun _ => False) w wr)) (fun _ iv _ => l.length - (intOf iv).toNat)
  case atStart => exact ⟨0, Nat.zero_le _, rfl, rfl, HV0⟩
  case round =>
    obtain ⟨i, hi, rfl, rfl, HI⟩ := hrel
    clear HV0
    by_cases hil : i < l.length
    · have hlt : (i : Int) < (l.length : Int) := by omega
      have hlt2 : (i : Int) < (l.length : Int) + 1 := by omega
      obtain ⟨b0, off0, hao, k0, k1, k2, k3, k4, k5⟩ := (unhide HL wr (unhide HI)).tp hil
      subst hao
      have hga := tpV_cell ((unhide HR).keep (by omega) (unhide HI)) (k := i) (b := l[i]) (by rw [List.getElem?_append_left hil, List.getElem?_eq_getElem hil])
      generalize hq : l[i] = x at *
      obtain ⟨d, k, t, q, p, m⟩ := x
      simp only at k0 k1 k2 k3 k4 k5
      have a0 : wr.cell? ⟨gi, i * 6, none⟩ = some (.int .i64 d) := hga 0 (by omega) _ rfl
      have a1 : wr.cell? ⟨gi, i * 6 + 1, none⟩ = some (.int .i64 k) := hga 1 (by omega) _ rfl
      have a2 : wr.cell? ⟨gi, i * 6 + 2, none⟩ = some (.string t) := hga 2 (by omega) _ rfl
      have a3 : wr.cell? ⟨gi, i * 6 + 3, none⟩ = some (.int .i64 q) := hga 3 (by omega) _ rfl
      have a4 : wr.cell? ⟨gi, i * 6 + 4, none⟩ = some (.int .i64 p) := hga 4 (by omega) _ rfl
      have a5 : wr.cell? ⟨gi, i * 6 + 5, none⟩ = some (.int .i64 m) := hga 5 (by omega) _ rfl
      clear hga hq
      go_upto_region 6 with (fail)
      go_region_held3 (fun u => u.cell? ⟨gi, i * 6, none⟩ = some (.int .i64 d) ∧ u.cell? ⟨gi, i * 6 + 1, none⟩ = some (.int .i64 k) ∧ u.cell? ⟨gi, i * 6 + 2, none⟩ = some (.string t) ∧ u.cell? ⟨gi, i * 6 + 3, none⟩ = some (.int .i64 q) ∧ u.cell? ⟨gi, i * 6 + 4, none⟩ = some (.int .i64 p) ∧ u.cell? ⟨gi, i * 6 + 5, none⟩ = some (.int .i64 m) ∧ u.cell? ⟨b0, off0 + i * 6, none⟩ = some (.int .i64 d) ∧ u.cell? ⟨b0, off0 + i * 6 + 1, none⟩ = some (.int .i64 k) ∧ u.cell? ⟨b0, off0 + i * 6 + 2, none⟩ = some (.string t) ∧ u.cell? ⟨b0, off0 + i * 6 + 3, none⟩ = some (.int .i64 q) ∧ u.cell? ⟨b0, off0 + i * 6 + 4, none⟩ = some (.int .i64 p) ∧ u.cell? ⟨b0, off0 + i * 6 + 5, none⟩ = some (.int .i64 m)) (go_keep) (fail)
      all_goals
        clear a0 a1 a2 a3 a4 a5 k0 k1 k2 k3 k4 k5
        go_wp2
        exact ⟨⟨i + 1, by omega, rfl, by go_num, hide (by repeat (first | (with_reducible exact unhide HI) | (with_reducible refine Fr.drew ?_) | (with_reducible refine Fr.drewN ?_ _)))⟩, by simp [intOf]; omega⟩
    · obtain rfl : i = l.length := by omega
      have hlt : ¬ (l.length : Int) < (l.length : Int) := by omega
      have HV1 : Hid (Fr (fun q => q = gi) w wr ∧ ∃ vs, vs.length = (l.length + 1) * 6 ∧ KRow wr (some ⟨gi, 0, none⟩) ci gi 6 vs) := hide ⟨(unhide HI).mono (fun _ _ t => t.elim), _, by rw [tpV_length]; simp, (unhide HR).keep (by omega) (unhide HI)⟩
      obtain ⟨wa, hwa⟩ : ∃ wa, wa = wr := ⟨_, rfl⟩
      subst hwa
      clear HI HL HR q1 q2
      go_wp2
      go_loopw [8] (fun iv wr => ∃ i : Nat, i ≤ l.length + 1 ∧ iv = .int .i64 i ∧ Hid (Fr (fun q => q = gi) w wr ∧ ∃ vs, vs.length = (l.length + 1) * 6 ∧ KRow wr (some ⟨gi, 0, none⟩) ci gi 6 vs)) (fun iv _ => l.length + 1 - (intOf iv).toNat)
      case atStart => exact ⟨0, Nat.zero_le _, rfl, HV1⟩
      case round =>
        obtain ⟨i, hi, rfl, HI⟩ := hrel
        clear HV1
        by_cases hil : i < l.length + 1
        · have hlt : (i : Int) < (l.length : Int) + 1 := by omega
          obtain ⟨hf, vs, hvl, hk⟩ := unhide HI
          have hroom : ∀ c, c < 6 → (∃ x, wr.cell? ⟨gi, i * 6 + c, none⟩ = some x) ∧ wr.frozen? ⟨gi, i * 6 + c, none⟩ = false := fun c hc => by
            have hle := hk.le
            have := hk.room (i * 6 + c) (by omega)
            exact ⟨Option.isSome_iff_exists.1 this.1, this.2⟩
          obtain ⟨⟨x0, r0⟩, f0⟩ := hroom 0 (by omega)
          obtain ⟨⟨x1, r1⟩, f1⟩ := hroom 1 (by omega)
          obtain ⟨⟨x2, r2⟩, f2⟩ := hroom 2 (by omega)
          obtain ⟨⟨x3, r3⟩, f3⟩ := hroom 3 (by omega)
          obtain ⟨⟨x4, r4⟩, f4⟩ := hroom 4 (by omega)
          obtain ⟨⟨x5, r5⟩, f5⟩ := hroom 5 (by omega)
          rw [Nat.add_zero] at r0 f0
          have HW := hide (And.intro hf (And.intro hvl hk))
          clear hroom hf hvl hk HI
          go_upto_region 9 with (fail)
          obtain ⟨u3, hu3⟩ : ∃ u3, u3 = ((((((wr.setCell ⟨gi, i * 6, none⟩ (.int .i64 (-9))).setCell ⟨gi, i * 6 + 1, none⟩ (.int .i64 0)).setCell ⟨gi, i * 6 + 2, none⟩ (.string ⟨#[]⟩)).setCell ⟨gi, i * 6 + 3, none⟩ (.int .i64 0)).setCell ⟨gi, i * 6 + 4, none⟩ (.int .i64 0)).setCell ⟨gi, i * 6 + 5, none⟩ (.int .i64 0)) := ⟨_, rfl⟩
          rw [← hu3]
          have HS1 : Hid (Fr (fun q => q = gi) w u3 ∧ ∃ vs, vs.length = (l.length + 1) * 6 ∧ KRow u3 (some ⟨gi, 0, none⟩) ci gi 6 vs) := hide (by
            obtain ⟨hf, hvl, hk⟩ := unhide HW
            refine ⟨hf.trans (show Fr (fun q => q = gi) wr u3 by rw [hu3]; repeat (with_reducible (first | exact Fr.refl _ _ | refine Fr.setB ?_ _ _))) (fun _ _ t => t), _, ?_, by rw [hu3]; exact (((((hk.set1 (i * 6) (by omega) _ rfl).set1 (i * 6 + 1) (by simp; omega) _ rfl).set1 (i * 6 + 2) (by simp; omega) _ rfl).set1 (i * 6 + 3) (by simp; omega) _ rfl).set1 (i * 6 + 4) (by simp; omega) _ rfl).set1 (i * 6 + 5) (by simp; omega) _ rfl⟩
            simp only [List.length_set]
            exact hvl)
          clear hu3 HW r0 r1 r2 r3 r4 r5 f0 f1 f2 f3 f4 f5
          go_wp2
          exact ⟨⟨i + 1, by omega, by go_num, HS1⟩, by simp [intOf]; omega⟩
        · obtain rfl : i = l.length + 1 := by omega
          have hlt : ¬ ((l.length + 1 : Nat) : Int) < (l.length : Int) + 1 := by omega
          have HZ := hide (unhide HI).1
          clear HI
          go_wp2
          go_ret
          exact ⟨rfl, unhide HZ⟩

end Go.Proofs.YtmgejkenpfihmaaGreat

/- The document's travel days, the mathematics: they are the program's; rows of taps that grow. -/
namespace Go.Proofs.YtmgejkenpfihmaaGreat
open Go.RowKit

def grp : Tp → List Tp → List Tp → List (List Tp)
  | _, cur, [] => [cur]
  | a, cur, x :: r => if dayV x.time = dayV a.time then grp x (cur ++ [x]) r else cur :: grp x [x] r
def daysD : List Tp → List (List Tp)
  | [] => []
  | x :: r => grp x [x] r
theorem grp_nil (a : Tp) (cur : List Tp) : grp a cur [] = [cur] := rfl
theorem grp_cons (a : Tp) (cur : List Tp) (x : Tp) (r : List Tp) : grp a cur (x :: r) = if dayV x.time = dayV a.time then grp x (cur ++ [x]) r else cur :: grp x [x] r := rfl

theorem grp_eq (D : Int) : ∀ (r : List Tp) (a : Tp) (cur : List Tp), dayV a.time = D → grp a cur r = (cur ++ r.takeWhile (fun t => decide (dayV t.time = D))) :: daysD (r.dropWhile (fun t => decide (dayV t.time = D)))
  | [], a, cur, _ => by simp [grp, daysD]
  | x :: r, a, cur, ha => by
    rw [grp_cons]
    by_cases hx : dayV x.time = D
    · rw [if_pos (hx.trans ha.symm), grp_eq D r x (cur ++ [x]) hx]
      simp [hx]
    · rw [if_neg (fun e => hx (e.trans ha))]
      simp [hx, daysD]

theorem take_while (Q : Tp → Bool) : ∀ l : List Tp, l.take (l.takeWhile Q).length = l.takeWhile Q ∧ l.drop (l.takeWhile Q).length = l.dropWhile Q
  | [] => ⟨rfl, rfl⟩
  | x :: r => by
    have ih := take_while Q r
    cases h : Q x with
    | true => simp [h, ih.1, ih.2]
    | false => simp [h]

theorem while_congr {P Q : Tp → Bool} : ∀ {l : List Tp}, (∀ t ∈ l, P t = Q t) → l.takeWhile P = l.takeWhile Q ∧ l.dropWhile P = l.dropWhile Q
  | [], _ => ⟨rfl, rfl⟩
  | x :: r, h => by
    have hx := h x (List.mem_cons_self ..)
    have ih := while_congr (l := r) (fun t ht => h t (List.mem_cons_of_mem _ ht))
    constructor
    · rw [List.takeWhile_cons, List.takeWhile_cons, hx, ih.1]
    · rw [List.dropWhile_cons, List.dropWhile_cons, hx, ih.2]

theorem daysL_cons {x : Tp} {r : List Tp} (h : RgtOk (x :: r)) : daysL (x :: r) = (x :: r).take (dayLn (x :: r)) :: daysL ((x :: r).drop (dayLn (x :: r))) := daysN_step h (by simp) (Nat.le_refl _)

theorem daysD_eq : ∀ (n : Nat) (l : List Tp), l.length ≤ n → RgtOk l → daysD l = daysL l
  | _, [], _, _ => rfl
  | 0, x :: r, hn, _ => absurd hn (by simp)
  | n + 1, x :: r, hn, h => by
    have hx := tap_time (h.1 x (List.mem_cons_self ..))
    have hd := dEnd_eq hx
    have hdx : dayV x.time = (x.time - 270) / 1440 := by unfold dayV; rw [(timeB_iff _).2 hx]; rfl
    have hP : ∀ t ∈ r, (!isLate (dEnd x) t) = decide (dayV t.time = dayV x.time) := fun t ht => by
      have h1 := tap_time (h.1 t (List.mem_cons_of_mem _ ht))
      have hdt : dayV t.time = (t.time - 270) / 1440 := by unfold dayV; rw [(timeB_iff _).2 h1]; rfl
      have hle : x.time ≤ t.time := by
        obtain ⟨j, hj, rfl⟩ := List.getElem_of_mem ht
        have := h.mono 0 (j + 1) (by omega) (by simp; omega)
        simpa using this
      rw [hdt, hdx]
      by_cases e : dEnd x ≤ t.time
      · have : ¬ (t.time - 270) / 1440 = (x.time - 270) / 1440 := by omega
        simp [isLate, e, this]
      · have : (t.time - 270) / 1440 = (x.time - 270) / 1440 := by omega
        simp [isLate, e, this]
    have hl : dayLn (x :: r) = ((x :: r).takeWhile (fun t => !isLate (dEnd x) t)).length := rfl
    have hw : (x :: r).takeWhile (fun t => !isLate (dEnd x) t) = x :: r.takeWhile (fun t => decide (dayV t.time = dayV x.time)) := by
      rw [List.takeWhile_cons, show (!isLate (dEnd x) x) = true by simp [isLate, hd]; omega, if_pos rfl, (while_congr hP).1]
    have hv : (x :: r).dropWhile (fun t => !isLate (dEnd x) t) = r.dropWhile (fun t => decide (dayV t.time = dayV x.time)) := by
      rw [List.dropWhile_cons, show (!isLate (dEnd x) x) = true by simp [isLate, hd]; omega, if_pos rfl, (while_congr hP).2]
    have hsub : RgtOk (r.dropWhile (fun t => decide (dayV t.time = dayV x.time))) := h.sub ((List.dropWhile_sublist _).trans (List.sublist_cons_self x r))
    have hlen : (r.dropWhile (fun t => decide (dayV t.time = dayV x.time))).length ≤ n := by
      have := (List.dropWhile_sublist (fun t => decide (dayV t.time = dayV x.time)) (l := r)).length_le
      simp at hn; omega
    rw [daysL_cons h, hl, (take_while _ _).1, (take_while _ _).2, hw, hv]
    show grp x [x] r = _
    rw [grp_eq (dayV x.time) r x [x] rfl, daysD_eq n _ hlen hsub]
    rfl

/-- The last row grows by a tap. -/
theorem DL.grew {M : Nat} {u u' : World} {ao ao' : Option Addr} {cap g cap' g' : Nat} {ds : List DR} {d : DR} {x : Tp} (h : DL M u ao cap g (ds ++ [d])) (hM : M ≤ u.heap.size) (hK : KRow u' ao' cap' g' 6 (tpV (d.tp ++ [x]))) (hG : Grew u d.g d.cap u' g' cap') :
    DL M (u'.setCell ⟨g, ds.length, none⟩ (.slice ao' (d.tp.length + 1) cap')) ao cap g (ds ++ [⟨ao', cap', g', d.tp ++ [x]⟩]) ∧ Fr (fun q => M ≤ q) u (u'.setCell ⟨g, ds.length, none⟩ (.slice ao' (d.tp.length + 1) cap')) ∧ u'.cell? ⟨g, ds.length, none⟩ = some d.val ∧ u'.frozen? ⟨g, ds.length, none⟩ = false := by
  have hd := h.els d (by simp)
  have hrl := h.row.le
  rw [List.length_map, List.length_append, List.length_singleton] at hrl
  have hcap : 0 < cap := by
    rcases Nat.eq_zero_or_pos cap with e | e
    · subst e; omega
    · exact e
  have hgu : g < u.heap.size := h.row.lt (by omega) hcap
  have hf : Fr (fun q => q = d.g ∧ 0 < d.cap) u u' := by
    rcases hG with ⟨_, _, f⟩ | ⟨_, _, f⟩
    · exact f
    · exact f.mono (fun _ _ t => t.elim)
  have hsz := hf.size
  have hne : ¬ (g = d.g ∧ 0 < d.cap) := fun e => (hd.2 e.2).2 hcap e.1.symm
  have hrow : KRow u' ao cap g 1 ((ds ++ [d]).map DR.val) := h.row.stay (fun _ => hf.block g hgu hne)
  have hfs : Fr (fun q => q = g) u' (u'.setCell ⟨g, ds.length, none⟩ (.slice ao' (d.tp.length + 1) cap')) := Fr.setB (Fr.refl _ _) _ _
  have hg' : 0 < cap' → M ≤ g' ∧ g' ≠ g ∧ ((g' = d.g ∧ 0 < d.cap) ∨ u.heap.size ≤ g') := fun hc => by
    rcases hG with ⟨e1, e2, _⟩ | ⟨e1, _, _⟩
    · have h0 : 0 < d.cap := by omega
      have := hd.2 h0
      exact ⟨by omega, by have := this.2 hcap; omega, .inl ⟨e1, h0⟩⟩
    · exact ⟨by omega, by omega, .inr e1⟩
  have hv : (ds ++ [d]).map DR.val = ds.map DR.val ++ [d.val] := by simp
  have hcell : u'.cell? ⟨g, ds.length, none⟩ = some d.val := by
    have := hrow.cells ds.length (by simp)
    rw [this]
    congr 1
    simp
  refine ⟨⟨?_, h.new, fun e he => ?_, ?_⟩, ?_, hcell, (hrow.room ds.length (by omega)).2⟩
  · have k := hrow.set1 ds.length (by simp) (.slice ao' (d.tp.length + 1) cap') rfl
    have e2 : ((ds ++ [d]).map DR.val).set ds.length (.slice ao' (d.tp.length + 1) cap') = (ds ++ [(⟨ao', cap', g', d.tp ++ [x]⟩ : DR)]).map DR.val := by
      rw [hv, List.set_append_right _ _ (by simp)]
      simp [DR.val]
    rw [e2] at k
    exact k
  · rcases List.mem_append.1 he with he | he
    · have k := h.els e (List.mem_append_left _ he)
      have hap : 0 < e.cap → 0 < d.cap → e.g ≠ d.g := (List.pairwise_append.1 h.apart).2.2 e he d (by simp)
      have k1 : KRow u' e.ao e.cap e.g 6 (tpV e.tp) := k.1.stay (fun hc => hf.block _ (k.1.lt (by omega) hc) (fun t => hap hc t.2 t.1))
      exact ⟨k1.stay (fun hc => hfs.block _ (k1.lt (by omega) hc) (fun t => (k.2 hc).2 hcap t)), k.2⟩
    · rw [List.mem_singleton] at he
      subst he
      exact ⟨hK.stay (fun hc => hfs.block _ (hK.lt (by omega) hc) (fun t => (hg' hc).2.1 t)), fun hc => ⟨(hg' hc).1, fun _ => (hg' hc).2.1⟩⟩
  · have ha := List.pairwise_append.1 h.apart
    refine List.pairwise_append.2 ⟨ha.1, List.pairwise_singleton _ _, fun a hamem b hb h1 h2 => ?_⟩
    rw [List.mem_singleton] at hb
    subst hb
    rcases (hg' h2).2.2 with ⟨e1, e2⟩ | e1
    · have := ha.2.2 a hamem d (by simp) h1 e2
      rw [e1]; exact this
    · have := (h.els a (List.mem_append_left _ hamem)).1.lt (by omega) h1
      show a.g ≠ g'
      omega
  · refine (hf.mono (fun q _ t => by rw [t.1]; exact (hd.2 t.2).1)).trans hfs (fun q _ t => by rw [t]; exact h.new hcap)

/-- A tap appended to a row of taps. -/
theorem append_tp {u : World} {ao : Option Addr} {cap g : Nat} {l : List Tp} (h : KRow u ao cap g 6 (tpV l)) (hl : l.length ≤ 100000) (x : Tp) (ty : TypeId) :
    ∃ ao' cap' u' g', (Builtin.append_ #[22, 22] ty #[.slice ao l.length cap, .slice (some ⟨u.heap.size, 0, none⟩) 1 1]).run Tryz.prog (u.alloc (.cells (tpC x) 24)) = .ok (.slice ao' (l.length + 1) cap') u' ∧ KRow u' ao' cap' g' 6 (tpV (l ++ [x])) ∧ Grew (u.alloc (.cells (tpC x) 24)) g cap u' g' cap' := by
  obtain ⟨info, hi, hz, hs, hy⟩ := info_of3 tInfo
  have hal : Fr (fun _ => False) u (u.alloc (.cells (tpC x) 24)) := (Fr.refl _ u).alloc _
  have hsr := src_new' u (tpL x) 22 24 6 Tryz.underlying22 rfl (tpL_one _) (W := u.alloc (.cells (tpC x) 24)) (fun j => by rw [World.cell?_alloc_new]; exact List.getElem?_toArray.symm ▸ rfl)
  obtain ⟨ao', cap', u', g', hrun, hrow, hg⟩ := append_krow (P := Tryz.prog) 22 22 ty 24 info _ 6 (by omega) Tryz.underlying22 hi hz rfl hs (h.keep (by omega) hal) (tpV_length l) _ (tpL x) 1 hsr (by rw [hy]; omega) (by omega)
  exact ⟨ao', cap', u', g', hrun, by rw [tpV_snoc]; exact hrow, hg⟩

end Go.Proofs.YtmgejkenpfihmaaGreat

/- The document's own travel days: Days. -/
namespace Go.Proofs.YtmgejkenpfihmaaGreat
open Go.RowKit

theorem DL.keep {M : Nat} {u u' : World} {ao : Option Addr} {cap g : Nat} {ds : List DR} (h : DL M u ao cap g ds) (hf : Fr (fun _ => False) u u') : DL M u' ao cap g ds :=
  ⟨h.row.keep (by omega) hf, h.new, fun e he => ⟨(h.els e he).1.keep (by omega) hf, (h.els e he).2⟩, h.apart⟩

/-- Where the document's rows stand behind i taps. -/
def StD (l : List Tp) (i : Nat) (ds : List DR) : Prop := (i = 0 ∧ ds = []) ∨ ∃ (k : Nat) (ds0 : List DR) (dd : DR) (hk : k < l.length), i = k + 1 ∧ ds = ds0 ++ [dd] ∧ ds0.map DR.tp ++ grp l[k] dd.tp (l.drop (k + 1)) = daysD l ∧ dd.tp.length ≤ k + 1 ∧ ds0.length ≤ k

def dr0 : DR := ⟨none, 0, 0, []⟩

theorem rdayF_any (u : World) (d k q p m : Int) (t : ByteArray) : Calls Tryz.prog 25 #[.agg #[.int .i64 d, .int .i64 k, .string t, .int .i64 q, .int .i64 p, .int .i64 m]] u fun e w' => e = .returned (.int .i64 (dayV m)) ∧ Fr (fun _ => False) u w' := rdayJ_any u ⟨d, k, t, q, p, m⟩

set_option maxHeartbeats 4000000 in
set_option maxRecDepth 20000 in
theorem rdays_any (w : World) (ao0 : Option Addr) (cap0 : Nat) (l : List Tp) (h : CAt w ao0 (tpV l)) (hl : l.length ≤ 4398046511104) :
    Calls Tryz.prog 10 #[.slice ao0 l.length cap0] w fun e w' => ∃ ao cap g ds, e = .returned (.tuple #[.slice ao ds.length cap, .int .i64 (rightT l)]) ∧ DL w.heap.size w' ao cap g ds ∧ ds.map DR.tp = (if rightT l = 0 then daysL l else []) ∧ Fr (fun _ => False) w w' := by
  have RR := hide (rrightJ_any w ao0 cap0 l h hl)
  have H := hide (fun (u : World) (hu : Fr (fun _ => False) w u) => h.keep hu)
  clear h
  by_cases hr : rightT l = 0
  · have HR := hide hr
    obtain ⟨hl2, hok⟩ := (rightT_zero l).1 hr
    have HDD : Hid (daysD l = daysL l) := hide (daysD_eq l.length l (Nat.le_refl _) hok)
    rw [hr] at RR ⊢
    rw [if_pos rfl]
    have RD := hide rdayF_any
    clear hok hr
    go_enter Tryz.func10, Tryz.ntmps10
    go_wp2_with fail
    refine (unhide RR).mono ?_
    rintro e w1 ⟨rfl, hF1⟩
    have HS0 : Hid (Fr (fun _ => False) w w1 ∧ DL w.heap.size w1 none 0 0 [] ∧ StD l 0 []) := hide ⟨hF1, DL.nil _ _, .inl ⟨rfl, rfl⟩⟩
    clear hF1 RR
    go_wp2
    go_loopw [5, 6] (fun rv iv wr => ∃ (i : Nat) (ds : List DR) (ao : Option Addr) (cap g : Nat), i ≤ l.length ∧ rv = .slice ao ds.length cap ∧ iv = .int .i64 i ∧ Hid (Fr (fun _ => False) w wr ∧ DL w.heap.size wr ao cap g ds ∧ StD l i ds)) (fun _ iv _ => l.length - (intOf iv).toNat)
    case atStart => exact ⟨0, [], none, 0, 0, Nat.zero_le _, rfl, rfl, HS0⟩
    case round =>
      obtain ⟨i, ds, ao, cap, g, hi, rfl, rfl, HI⟩ := hrel
      clear HS0
      by_cases hil : i < l.length
      · have hlt : (i : Int) < (l.length : Int) := by omega
        obtain ⟨infs, hi2, hz2, hs2, hy2⟩ := info_of3 tsInfo
        have HI2 := hide (And.intro hi2 (And.intro hz2 (And.intro hs2 hy2)))
        clear hi2 hz2 hs2 hy2
        obtain ⟨b, off, hao, c0, c1, c2, c3, c4, c5⟩ := (unhide H wr (unhide HI).1).tp hil
        subst hao
        have HXI : Hid (∀ u, Fr (fun _ => False) w u → TpAt u b (off + i * 6) l[i]) := hide (fun u hu => by
          obtain ⟨b', off', hao, hc⟩ := (unhide H u hu).tp hil
          injection hao with hao
          injection hao with h1 h2
          subst h1 h2
          exact hc)
        have HGI : Hid (l.drop i = l[i] :: l.drop (i + 1)) := hide (List.drop_eq_getElem_cons hil)
        obtain ⟨x, hx⟩ : ∃ x, l[i] = x := ⟨_, rfl⟩
        have HX := hide hx
        rw [hx] at c0 c1 c2 c3 c4 c5 HXI HGI
        obtain ⟨d1, k1, t1, q1, p1, m1⟩ := x
        simp only at c0 c1 c2 c3 c4 c5
        clear hx
        rcases (unhide HI).2.2 with ⟨h0, hds⟩ | ⟨k, ds0, dd, hk, h0, hds, hgr, hdl, hdn⟩
        · have hib : ((i : Int) == 0) = true := by simp [h0]
          have HSTN : Hid (∀ ao1 cap1 g1, StD l (i + 1) (ds ++ [⟨ao1, cap1, g1, dr0.tp ++ [⟨d1, k1, t1, q1, p1, m1⟩]⟩])) := hide (fun ao1 cap1 g1 => .inr ⟨i, ds, _, hil, rfl, rfl, by
            rw [unhide HX, hds]
            have e : l = ⟨d1, k1, t1, q1, p1, m1⟩ :: l.drop (i + 1) := by rw [← unhide HGI, h0]; rfl
            show grp ⟨d1, k1, t1, q1, p1, m1⟩ [⟨d1, k1, t1, q1, p1, m1⟩] (l.drop (i + 1)) = daysD l
            conv => rhs; rw [e]
            rfl, by simp [dr0], by rw [hds]; simp⟩)
          have HB100 : Hid (dr0.tp.length ≤ 100000) := hide (by simp [dr0])
          have HBD : Hid (ds.length ≤ 2000) := hide (by rw [hds]; simp)
          clear h0 hds HGI HX
          go_wp2_with fail
          go_quiet (fail)
          obtain ⟨X, hX⟩ : ∃ X, X = wr.drewN nq := ⟨_, rfl⟩
          rw [← hX]
          have hFq : Fr (fun _ => False) wr X := by rw [hX]; exact (Fr.refl _ _).drewN _
          have HFX := hide ((unhide HI).1.trans hFq (fun _ _ t => t))
          have HD := hide ((unhide HI).2.1.keep hFq)
          clear hX hFq HI c0 c1 c2 c3 c4 c5
          obtain ⟨DS, hDS⟩ : ∃ DS, DS = ds := ⟨_, rfl⟩
          rw [← hDS] at HD HSTN HBD ⊢
          clear hDS
          have HDW : Hid (KRow (X.alloc (.cells #[.slice none 0 0] 22)) ao cap g 1 (DS.map DR.val)) := hide ((unhide HD).row.keep (by omega) ((Fr.refl (fun _ => False) X).alloc _))
          have HSR2 := hide (src_new' X [.slice none 0 0] 29 22 1 Tryz.underlying29 rfl (fun u hu => by rw [List.mem_singleton] at hu; subst hu; rfl) (W := X.alloc (.cells #[.slice none 0 0] 22)) (fun j => by rw [World.cell?_alloc_new]; exact List.getElem?_toArray.symm ▸ rfl))
          have hds2 := unhide HBD
          go_wp2_with (at_builtin; refine wpList_append_krow _ rfl (.tmp 34) (.tmp 35) 29 29 rfl 22 infs _ 1 (by omega) Tryz.underlying29 (unhide HI2).1 (unhide HI2).2.1 rfl (unhide HI2).2.2.1 rfl (unhide HDW) (by simp) _ [.slice none 0 0] 1 rfl (unhide HSR2) (by rw [(unhide HI2).2.2.2]; omega) (by omega) ?_)
          intro ao2 cap2 w4 g2 hrow2 hgr2
          have hD4 := DL.app (unhide HD) (unhide HFX).size ((Fr.refl (fun _ => False) X).alloc (.cells #[.slice none 0 0] 22)) dr0 (KRow.nil _ _ _) (fun h => absurd h (by simp [dr0])) hrow2 hgr2
          have hF4 : Fr (fun _ => False) w w4 := by
            have hal : Fr (fun _ => False) X (X.alloc (.cells #[.slice none 0 0] 22)) := (Fr.refl _ _).alloc _
            rcases hgr2 with ⟨_, _, f⟩ | ⟨_, _, f⟩
            · exact ((unhide HFX).trans hal (fun _ _ t => t)).trans f (fun q hq t => by have := (unhide HD).new t.2; omega)
            · exact ((unhide HFX).trans hal (fun _ _ t => t)).trans f (fun _ _ t => t)
          replace HD := hide hD4
          replace HFX := hide hF4
          clear hD4 hF4 hrow2 hgr2 HDW HSR2 hds2
          have hln : (DS.length + 1 : Nat) = (DS ++ [dr0]).length := by simp
          rw [hln]
          clear hln
          obtain ⟨DD, hDD⟩ : ∃ DD : DR, DD = dr0 := ⟨_, rfl⟩
          rw [← hDD] at HD HSTN HB100 ⊢
          clear hDD
          go_upto_region 10 with (fail)
          obtain ⟨c0, c1, c2, c3, c4, c5⟩ := unhide HXI w4 (unhide HFX)
          simp only at c0 c1 c2 c3 c4 c5
          obtain ⟨ao1, cap1, v1, g1, hrun, hK1, hG1⟩ := append_tp (u := w4.drew) (((unhide HD).els DD (by simp)).1.keep (by omega) ((Fr.refl (fun _ => False) w4).drew)) (unhide HB100) ⟨d1, k1, t1, q1, p1, m1⟩ 22
          have hDk := (unhide HD).keep (((Fr.refl (fun _ => False) w4).drew).alloc (.cells #[.int .i64 d1, .int .i64 k1, .string t1, .int .i64 q1, .int .i64 p1, .int .i64 m1] 24))
          obtain ⟨hD2, hF2, ha2, ha3⟩ := hDk.grew (by simp; have := (unhide HFX).size; omega) hK1 hG1
          have HF2 : Hid (Fr (fun _ => False) w (v1.setCell ⟨g2, DS.length, none⟩ (.slice ao1 (DD.tp.length + 1) cap1))) := hide (((unhide HFX).trans (((Fr.refl (fun _ => False) w4).drew).alloc (.cells #[.int .i64 d1, .int .i64 k1, .string t1, .int .i64 q1, .int .i64 p1, .int .i64 m1] 24)) (fun _ _ t => t)).trans hF2 (fun q hq t => by omega))
          have HNX : Hid (Fr (fun _ => False) w (v1.setCell ⟨g2, DS.length, none⟩ (.slice ao1 (DD.tp.length + 1) cap1)) ∧ DL w.heap.size (v1.setCell ⟨g2, DS.length, none⟩ (.slice ao1 (DD.tp.length + 1) cap1)) ao2 cap2 g2 (DS ++ [⟨ao1, cap1, g1, DD.tp ++ [⟨d1, k1, t1, q1, p1, m1⟩]⟩]) ∧ StD l (i + 1) (DS ++ [⟨ao1, cap1, g1, DD.tp ++ [⟨d1, k1, t1, q1, p1, m1⟩]⟩])) := hide ⟨unhide HF2, hD2, unhide HSTN ao1 cap1 g1⟩
          have HRUN := hide hrun
          have hrun2 : (Builtin.append_ #[22, 22] 22 #[.slice DD.ao DD.tp.length DD.cap, .slice (some ⟨w4.heap.size, 0, none⟩) 1 1]).run Tryz.prog (w4.alloc (.cells #[.int .i64 d1, .int .i64 k1, .string t1, .int .i64 q1, .int .i64 p1, .int .i64 m1] 24)).drew = .ok (.slice ao1 (DD.tp.length + 1) cap1) v1 := hrun
          have HRUN2 := hide hrun2
          have hlast : ∀ u, Fr (fun _ => False) w4 u → u.cell? ⟨g2, DS.length, none⟩ = some (.slice DD.ao DD.tp.length DD.cap) := fun u hu => by
            have k := ((unhide HD).keep hu).row.cells DS.length (by simp)
            rw [k]
            congr 1
            simp [DR.val]
          have a0 := hlast w4 (Fr.refl _ _)
          have a1 := hlast _ (((Fr.refl (fun _ => False) w4).drew).alloc (.cells #[.int .i64 d1, .int .i64 k1, .string t1, .int .i64 q1, .int .i64 p1, .int .i64 m1] 24))
          have a1b := hlast _ ((Fr.refl (fun _ => False) w4).alloc (.cells #[.int .i64 d1, .int .i64 k1, .string t1, .int .i64 q1, .int .i64 p1, .int .i64 m1] 24))
          have a2 : v1.cell? ⟨g2, DS.length, none⟩ = some (.slice DD.ao DD.tp.length DD.cap) := ha2
          have hcap : 0 < cap2 := by
            have hle := (unhide HD).row.le
            rw [List.length_map, List.length_append, List.length_singleton] at hle
            omega
          have hao : ao2 = some ⟨g2, 0, none⟩ := (unhide HD).row.ad hcap
          rw [hao] at HNX ⊢
          have hNl : (DS ++ [DD]).length = DS.length + 1 := by simp
          have hNl2 : (DS ++ [(⟨ao1, cap1, g1, DD.tp ++ [⟨d1, k1, t1, q1, p1, m1⟩]⟩ : DR)]).length = DS.length + 1 := by simp
          obtain ⟨N, hN⟩ : ∃ N, DS.length + 1 = N := ⟨_, rfl⟩
          rw [hN] at hNl hNl2
          first | rw [hNl] | rw [hN]
          have HN2 := hide hNl2
          obtain ⟨mm, hmm⟩ : ∃ mm, DS.length = mm := ⟨_, rfl⟩
          rw [hmm] at hN a0 a1 a1b a2 ha3 HNX
          have hbd := unhide HBD
          rw [hmm] at hbd
          have hw1 : IntKind.i64.wrap ((N : Int) - 1) = (mm : Int) := by rw [IntKind.wrap_i64]; omega
          have hx0 : (0 : Int) ≤ (mm : Int) := by omega
          have hx1 : (mm : Int) < (N : Int) := by omega
          have hx2 : decide ((0 : Int) ≤ (mm : Int)) = true := by simp
          have hx3 : decide ((mm : Int) < (N : Int)) = true := by simp; omega
          have hx4 : ((mm : Int)).toNat = mm := by simp
          have HNL := hide hNl
          have HIL := hide hil
          clear hao hN hmm hNl hNl2 hrun hrun2 hK1 hG1 hDk hD2 hF2 HF2 ha2 hlast hcap hbd hil
          trace_state
          go_wp2_with fail
          go_region_law (first | refine step_append_runJ rfl (.tmp 46) (.tmp 51) 22 22 rfl rfl rfl (unhide HRUN) ?_ | refine step_append_runJ rfl (.tmp 46) (.tmp 51) 22 22 rfl rfl rfl (unhide HRUN2) ?_)
          all_goals
            clear a0 a1 a1b a2 ha3 c0 c1 c2 c3 c4 c5 HRUN HRUN2
            have hil := unhide HIL
            rw [← unhide HN2]
            go_wp2
            exact ⟨⟨i + 1, _, _, _, _, hil, rfl, by go_num, HNX⟩, by simp [intOf]; omega⟩
        · subst hds
          obtain ⟨NL, hNL⟩ : ∃ NL, (ds0 ++ [dd]).length = NL := ⟨_, rfl⟩
          rw [hNL]
          have HNLL := hide hNL
          clear hNL
          have hib : ((i : Int) == 0) = false := by simp; omega
          have hw0 : IntKind.i64.wrap ((i : Int) - 1) = (k : Int) := by rw [IntKind.wrap_i64]; omega
          have hy0 : (0 : Int) ≤ (k : Int) := by omega
          have hy1 : (k : Int) < (l.length : Int) := by omega
          have hy2 : decide ((0 : Int) ≤ (k : Int)) = true := by simp
          have hy3 : decide ((k : Int) < (l.length : Int)) = true := by simp; omega
          have hy4 : ((k : Int)).toNat = k := by simp
          have hz0 : (0 : Int) ≤ (i : Int) := by omega
          have hz2 : decide ((0 : Int) ≤ (i : Int)) = true := by simp
          have hz3 : decide ((i : Int) < (l.length : Int)) = true := by simp; omega
          have hz4 : ((i : Int)).toNat = i := by simp
          have HYI : Hid (TpAt wr b (off + k * 6) l[k]) := hide (by
            obtain ⟨b', off', hao, hc⟩ := (unhide H wr (unhide HI).1).tp hk
            injection hao with hao
            injection hao with h1 h2
            subst h1 h2
            exact hc)
          rw [← h0] at hgr
          rw [unhide HGI, grp_cons] at hgr
          obtain ⟨y, hy⟩ : ∃ y, l[k] = y := ⟨_, rfl⟩
          rw [hy] at HYI hgr
          clear hy
          obtain ⟨d2, k2, t2, q2, p2, m2⟩ := y
          obtain ⟨e0, e1, e2, e3, e4, e5⟩ := unhide HYI
          simp only at e0 e1 e2 e3 e4 e5 hgr
          have hlen : (ds0 ++ [dd]).length ≤ 2000 := by simp; omega
          have htl : dd.tp.length ≤ 100000 := by omega
          have HCB : Hid (∀ u, Fr (fun _ => False) wr u → u.cell? ⟨b, off + i * 6, none⟩ = some (.int .i64 d1) ∧ u.cell? ⟨b, off + i * 6 + 1, none⟩ = some (.int .i64 k1) ∧ u.cell? ⟨b, off + i * 6 + 2, none⟩ = some (.string t1) ∧ u.cell? ⟨b, off + i * 6 + 3, none⟩ = some (.int .i64 q1) ∧ u.cell? ⟨b, off + i * 6 + 4, none⟩ = some (.int .i64 p1) ∧ u.cell? ⟨b, off + i * 6 + 5, none⟩ = some (.int .i64 m1) ∧ u.cell? ⟨b, off + k * 6, none⟩ = some (.int .i64 d2) ∧ u.cell? ⟨b, off + k * 6 + 1, none⟩ = some (.int .i64 k2) ∧ u.cell? ⟨b, off + k * 6 + 2, none⟩ = some (.string t2) ∧ u.cell? ⟨b, off + k * 6 + 3, none⟩ = some (.int .i64 q2) ∧ u.cell? ⟨b, off + k * 6 + 4, none⟩ = some (.int .i64 p2) ∧ u.cell? ⟨b, off + k * 6 + 5, none⟩ = some (.int .i64 m2)) := hide (fun u hf => by
            have f : ∀ {a : Addr} {v : Value}, wr.cell? a = some v → u.cell? a = some v := fun {a v} e => (hf.cell (World.block_lt_of_cell? _ _ e) (fun t => t)).trans e
            exact ⟨f c0, f c1, f c2, f c3, f c4, f c5, f e0, f e1, f e2, f e3, f e4, f e5⟩)
          have hHX := unhide HX
          have HDN : Hid (i ≤ l.length ∧ ds0.length ≤ i) := hide ⟨hi, by omega⟩
          by_cases hD : dayV m1 = dayV m2
          · have HSTN : Hid (∀ ao1 cap1 g1, StD l (i + 1) (ds0 ++ [⟨ao1, cap1, g1, dd.tp ++ [⟨d1, k1, t1, q1, p1, m1⟩]⟩])) := hide (fun ao1 cap1 g1 => .inr ⟨i, ds0, _, hil, rfl, rfl, by
              rw [hHX]
              rw [if_pos hD] at hgr
              exact hgr, by simp; omega, by omega⟩)
            have HB100 : Hid (dd.tp.length ≤ 100000) := hide htl
            have HBD : Hid (ds0.length ≤ 2000) := hide (by simp at hlen; omega)
            have hdb : (dayV m1 != dayV m2) = false := by simp [hD]
            clear hgr h0 hHX HX HGI HYI hD hlen htl hdl hdn hk
            go_upto_region 8 with (fail)
            go_cut [33] from 18 to 32 (fun bv wd => bv = .bool false ∧ Hid (Fr (fun _ => False) wr wd))
            case first =>
              go_region_held3 (fun u => u.cell? ⟨b, off + i * 6, none⟩ = some (.int .i64 d1) ∧ u.cell? ⟨b, off + i * 6 + 1, none⟩ = some (.int .i64 k1) ∧ u.cell? ⟨b, off + i * 6 + 2, none⟩ = some (.string t1) ∧ u.cell? ⟨b, off + i * 6 + 3, none⟩ = some (.int .i64 q1) ∧ u.cell? ⟨b, off + i * 6 + 4, none⟩ = some (.int .i64 p1) ∧ u.cell? ⟨b, off + i * 6 + 5, none⟩ = some (.int .i64 m1) ∧ u.cell? ⟨b, off + k * 6, none⟩ = some (.int .i64 d2) ∧ u.cell? ⟨b, off + k * 6 + 1, none⟩ = some (.int .i64 k2) ∧ u.cell? ⟨b, off + k * 6 + 2, none⟩ = some (.string t2) ∧ u.cell? ⟨b, off + k * 6 + 3, none⟩ = some (.int .i64 q2) ∧ u.cell? ⟨b, off + k * 6 + 4, none⟩ = some (.int .i64 p2) ∧ u.cell? ⟨b, off + k * 6 + 5, none⟩ = some (.int .i64 m2)) ((refine unhide HCB _ ?_; repeat (first | (with_reducible exact Fr.refl _ _) | (with_reducible refine Fr.drew ?_) | (with_reducible refine Fr.trans ?_ (unhide HA) (fun _ _ t => t)) | (with_reducible refine Fr.trans ?_ (unhide HB) (fun _ _ t => t)))))
                (first | (go_at_call_of 25 (Value.agg #[.int .i64 d1, .int .i64 k1, .string t1, .int .i64 q1, .int .i64 p1, .int .i64 m1]); refine (unhide RD _ _ _ _ _ _ _).mono ?_; rintro e wa ⟨rfl, hA⟩; have HA := hide hA; clear hA) | (go_at_call_of 25 (Value.agg #[.int .i64 d2, .int .i64 k2, .string t2, .int .i64 q2, .int .i64 p2, .int .i64 m2]); refine (unhide RD _ _ _ _ _ _ _).mono ?_; rintro e wb ⟨rfl, hB⟩; have HB := hide hB; clear hB))
              all_goals
                go_wp2_with fail
                go_meet
                exact ⟨by first | rfl | rw [hdb], hide (by repeat (first | (with_reducible exact Fr.refl _ _) | (with_reducible refine Fr.drew ?_) | (with_reducible refine Fr.trans ?_ (unhide HA) (fun _ _ t => t)) | (with_reducible refine Fr.trans ?_ (unhide HB) (fun _ _ t => t))))⟩
            case rest =>
              obtain ⟨rfl, HFC⟩ := hcut
              obtain ⟨X, hX⟩ : ∃ X, X = wc := ⟨_, rfl⟩
              subst hX
              rw [← unhide HNLL]
              clear HNLL
              have HFX := hide ((unhide HI).1.trans (unhide HFC) (fun _ _ t => t))
              have HD := hide ((unhide HI).2.1.keep (unhide HFC))
              clear HFC HI HCB c0 c1 c2 c3 c4 c5 e0 e1 e2 e3 e4 e5
              obtain ⟨DS, hDS⟩ : ∃ DS, DS = ds0 := ⟨_, rfl⟩
              obtain ⟨DD, hDD⟩ : ∃ DD, DD = dd := ⟨_, rfl⟩
              rw [← hDS] at HD HSTN HBD ⊢
              rw [← hDD] at HD HSTN HB100 ⊢
              clear hDS hDD
              go_upto_region 10 with (fail)
              obtain ⟨c0, c1, c2, c3, c4, c5⟩ := unhide HXI X (unhide HFX)
              simp only at c0 c1 c2 c3 c4 c5
              obtain ⟨ao1, cap1, v1, g1, hrun, hK1, hG1⟩ := append_tp (u := X.drew) (((unhide HD).els DD (by simp)).1.keep (by omega) ((Fr.refl (fun _ => False) X).drew)) (unhide HB100) ⟨d1, k1, t1, q1, p1, m1⟩ 22
              have hDk := (unhide HD).keep (((Fr.refl (fun _ => False) X).drew).alloc (.cells #[.int .i64 d1, .int .i64 k1, .string t1, .int .i64 q1, .int .i64 p1, .int .i64 m1] 24))
              obtain ⟨hD2, hF2, ha2, ha3⟩ := hDk.grew (by simp; have := (unhide HFX).size; omega) hK1 hG1
              have HF2 : Hid (Fr (fun _ => False) w (v1.setCell ⟨g, DS.length, none⟩ (.slice ao1 (DD.tp.length + 1) cap1))) := hide (((unhide HFX).trans (((Fr.refl (fun _ => False) X).drew).alloc (.cells #[.int .i64 d1, .int .i64 k1, .string t1, .int .i64 q1, .int .i64 p1, .int .i64 m1] 24)) (fun _ _ t => t)).trans hF2 (fun q hq t => by omega))
              have HNX : Hid (Fr (fun _ => False) w (v1.setCell ⟨g, DS.length, none⟩ (.slice ao1 (DD.tp.length + 1) cap1)) ∧ DL w.heap.size (v1.setCell ⟨g, DS.length, none⟩ (.slice ao1 (DD.tp.length + 1) cap1)) ao cap g (DS ++ [⟨ao1, cap1, g1, DD.tp ++ [⟨d1, k1, t1, q1, p1, m1⟩]⟩]) ∧ StD l (i + 1) (DS ++ [⟨ao1, cap1, g1, DD.tp ++ [⟨d1, k1, t1, q1, p1, m1⟩]⟩])) := hide ⟨unhide HF2, hD2, unhide HSTN ao1 cap1 g1⟩
              have HRUN := hide hrun
              have hrun2 : (Builtin.append_ #[22, 22] 22 #[.slice DD.ao DD.tp.length DD.cap, .slice (some ⟨X.heap.size, 0, none⟩) 1 1]).run Tryz.prog (X.alloc (.cells #[.int .i64 d1, .int .i64 k1, .string t1, .int .i64 q1, .int .i64 p1, .int .i64 m1] 24)).drew = .ok (.slice ao1 (DD.tp.length + 1) cap1) v1 := hrun
              have HRUN2 := hide hrun2
              have hlast : ∀ u, Fr (fun _ => False) X u → u.cell? ⟨g, DS.length, none⟩ = some (.slice DD.ao DD.tp.length DD.cap) := fun u hu => by
                have k := ((unhide HD).keep hu).row.cells DS.length (by simp)
                rw [k]
                congr 1
                simp [DR.val]
              have a0 := hlast X (Fr.refl _ _)
              have a1 := hlast _ (((Fr.refl (fun _ => False) X).drew).alloc (.cells #[.int .i64 d1, .int .i64 k1, .string t1, .int .i64 q1, .int .i64 p1, .int .i64 m1] 24))
              have a1b := hlast _ ((Fr.refl (fun _ => False) X).alloc (.cells #[.int .i64 d1, .int .i64 k1, .string t1, .int .i64 q1, .int .i64 p1, .int .i64 m1] 24))
              have a2 : v1.cell? ⟨g, DS.length, none⟩ = some (.slice DD.ao DD.tp.length DD.cap) := ha2
              have hcap : 0 < cap := by
                have hle := (unhide HD).row.le
                rw [List.length_map, List.length_append, List.length_singleton] at hle
                omega
              have hao : ao = some ⟨g, 0, none⟩ := (unhide HD).row.ad hcap
              rw [hao] at HNX ⊢
              have hNl : (DS ++ [DD]).length = DS.length + 1 := by simp
              have hNl2 : (DS ++ [(⟨ao1, cap1, g1, DD.tp ++ [⟨d1, k1, t1, q1, p1, m1⟩]⟩ : DR)]).length = DS.length + 1 := by simp
              obtain ⟨N, hN⟩ : ∃ N, DS.length + 1 = N := ⟨_, rfl⟩
              rw [hN] at hNl hNl2
              first | rw [hNl] | rw [hN]
              have HN2 := hide hNl2
              obtain ⟨mm, hmm⟩ : ∃ mm, DS.length = mm := ⟨_, rfl⟩
              rw [hmm] at hN a0 a1 a1b a2 ha3 HNX
              have hbd := unhide HBD
              rw [hmm] at hbd
              have hw1 : IntKind.i64.wrap ((N : Int) - 1) = (mm : Int) := by rw [IntKind.wrap_i64]; omega
              have hx0 : (0 : Int) ≤ (mm : Int) := by omega
              have hx1 : (mm : Int) < (N : Int) := by omega
              have hx2 : decide ((0 : Int) ≤ (mm : Int)) = true := by simp
              have hx3 : decide ((mm : Int) < (N : Int)) = true := by simp; omega
              have hx4 : ((mm : Int)).toNat = mm := by simp
              have HNL := hide hNl
              have HIL := hide hil
              clear hao hN hmm hNl hNl2 hrun hrun2 hK1 hG1 hDk hD2 hF2 HF2 ha2 hlast hcap hbd hil
              go_wp2_with fail
              go_region_law (first | refine step_append_runJ rfl (.tmp 46) (.tmp 51) 22 22 rfl rfl rfl (unhide HRUN) ?_ | refine step_append_runJ rfl (.tmp 46) (.tmp 51) 22 22 rfl rfl rfl (unhide HRUN2) ?_)
              all_goals
                clear a0 a1 a1b a2 ha3 c0 c1 c2 c3 c4 c5 HRUN HRUN2
                have hil := unhide HIL
                rw [← unhide HN2]
                go_wp2
                exact ⟨⟨i + 1, _, _, _, _, hil, rfl, by go_num, HNX⟩, by simp [intOf]; omega⟩
          · have HSTN : Hid (∀ ao1 cap1 g1, StD l (i + 1) ((ds0 ++ [dd]) ++ [⟨ao1, cap1, g1, dr0.tp ++ [⟨d1, k1, t1, q1, p1, m1⟩]⟩])) := hide (fun ao1 cap1 g1 => .inr ⟨i, ds0 ++ [dd], _, hil, rfl, rfl, by
              rw [hHX]
              rw [if_neg hD] at hgr
              rw [← hgr]
              simp [dr0], by simp [dr0], by simp; omega⟩)
            have HB100 : Hid (dr0.tp.length ≤ 100000) := hide (by simp [dr0])
            have HBD : Hid ((ds0 ++ [dd]).length ≤ 2000) := hide hlen
            have hdb : (dayV m1 != dayV m2) = true := by simp [hD]
            clear hgr h0 hHX HX HGI HYI hD hlen htl hdl hdn hk
            go_upto_region 8 with (fail)
            go_cut [33] from 18 to 32 (fun bv wd => bv = .bool true ∧ Hid (Fr (fun _ => False) wr wd))
            case first =>
              go_region_held3 (fun u => u.cell? ⟨b, off + i * 6, none⟩ = some (.int .i64 d1) ∧ u.cell? ⟨b, off + i * 6 + 1, none⟩ = some (.int .i64 k1) ∧ u.cell? ⟨b, off + i * 6 + 2, none⟩ = some (.string t1) ∧ u.cell? ⟨b, off + i * 6 + 3, none⟩ = some (.int .i64 q1) ∧ u.cell? ⟨b, off + i * 6 + 4, none⟩ = some (.int .i64 p1) ∧ u.cell? ⟨b, off + i * 6 + 5, none⟩ = some (.int .i64 m1) ∧ u.cell? ⟨b, off + k * 6, none⟩ = some (.int .i64 d2) ∧ u.cell? ⟨b, off + k * 6 + 1, none⟩ = some (.int .i64 k2) ∧ u.cell? ⟨b, off + k * 6 + 2, none⟩ = some (.string t2) ∧ u.cell? ⟨b, off + k * 6 + 3, none⟩ = some (.int .i64 q2) ∧ u.cell? ⟨b, off + k * 6 + 4, none⟩ = some (.int .i64 p2) ∧ u.cell? ⟨b, off + k * 6 + 5, none⟩ = some (.int .i64 m2)) ((refine unhide HCB _ ?_; repeat (first | (with_reducible exact Fr.refl _ _) | (with_reducible refine Fr.drew ?_) | (with_reducible refine Fr.trans ?_ (unhide HA) (fun _ _ t => t)) | (with_reducible refine Fr.trans ?_ (unhide HB) (fun _ _ t => t)))))
                (first | (go_at_call_of 25 (Value.agg #[.int .i64 d1, .int .i64 k1, .string t1, .int .i64 q1, .int .i64 p1, .int .i64 m1]); refine (unhide RD _ _ _ _ _ _ _).mono ?_; rintro e wa ⟨rfl, hA⟩; have HA := hide hA; clear hA) | (go_at_call_of 25 (Value.agg #[.int .i64 d2, .int .i64 k2, .string t2, .int .i64 q2, .int .i64 p2, .int .i64 m2]); refine (unhide RD _ _ _ _ _ _ _).mono ?_; rintro e wb ⟨rfl, hB⟩; have HB := hide hB; clear hB))
              all_goals
                go_wp2_with fail
                go_meet
                exact ⟨by first | rfl | rw [hdb], hide (by repeat (first | (with_reducible exact Fr.refl _ _) | (with_reducible refine Fr.drew ?_) | (with_reducible refine Fr.trans ?_ (unhide HA) (fun _ _ t => t)) | (with_reducible refine Fr.trans ?_ (unhide HB) (fun _ _ t => t))))⟩
            case rest =>
              obtain ⟨rfl, HFC⟩ := hcut
              obtain ⟨X, hX⟩ : ∃ X, X = wc := ⟨_, rfl⟩
              subst hX
              rw [← unhide HNLL]
              clear HNLL
              have HFX := hide ((unhide HI).1.trans (unhide HFC) (fun _ _ t => t))
              have HD := hide ((unhide HI).2.1.keep (unhide HFC))
              clear HFC HI HCB c0 c1 c2 c3 c4 c5 e0 e1 e2 e3 e4 e5
              obtain ⟨DS, hDS⟩ : ∃ DS, DS = ds0 ++ [dd] := ⟨_, rfl⟩
              rw [← hDS] at HD HSTN HBD ⊢
              clear hDS
              have HDW : Hid (KRow (X.alloc (.cells #[.slice none 0 0] 22)) ao cap g 1 (DS.map DR.val)) := hide ((unhide HD).row.keep (by omega) ((Fr.refl (fun _ => False) X).alloc _))
              have HSR2 := hide (src_new' X [.slice none 0 0] 29 22 1 Tryz.underlying29 rfl (fun u hu => by rw [List.mem_singleton] at hu; subst hu; rfl) (W := X.alloc (.cells #[.slice none 0 0] 22)) (fun j => by rw [World.cell?_alloc_new]; exact List.getElem?_toArray.symm ▸ rfl))
              have hds2 := unhide HBD
              go_wp2_with (at_builtin; refine wpList_append_krow _ rfl (.tmp 34) (.tmp 35) 29 29 rfl 22 infs _ 1 (by omega) Tryz.underlying29 (unhide HI2).1 (unhide HI2).2.1 rfl (unhide HI2).2.2.1 rfl (unhide HDW) (by simp) _ [.slice none 0 0] 1 rfl (unhide HSR2) (by rw [(unhide HI2).2.2.2]; omega) (by omega) ?_)
              intro ao2 cap2 w4 g2 hrow2 hgr2
              have hD4 := DL.app (unhide HD) (unhide HFX).size ((Fr.refl (fun _ => False) X).alloc (.cells #[.slice none 0 0] 22)) dr0 (KRow.nil _ _ _) (fun h => absurd h (by simp [dr0])) hrow2 hgr2
              have hF4 : Fr (fun _ => False) w w4 := by
                have hal : Fr (fun _ => False) X (X.alloc (.cells #[.slice none 0 0] 22)) := (Fr.refl _ _).alloc _
                rcases hgr2 with ⟨_, _, f⟩ | ⟨_, _, f⟩
                · exact ((unhide HFX).trans hal (fun _ _ t => t)).trans f (fun q hq t => by have := (unhide HD).new t.2; omega)
                · exact ((unhide HFX).trans hal (fun _ _ t => t)).trans f (fun _ _ t => t)
              replace HD := hide hD4
              replace HFX := hide hF4
              clear hD4 hF4 hrow2 hgr2 HDW HSR2 hds2
              have hln : (DS.length + 1 : Nat) = (DS ++ [dr0]).length := by simp
              rw [hln]
              clear hln
              obtain ⟨DD, hDD⟩ : ∃ DD : DR, DD = dr0 := ⟨_, rfl⟩
              rw [← hDD] at HD HSTN HB100 ⊢
              clear hDD
              go_upto_region 10 with (fail)
              obtain ⟨c0, c1, c2, c3, c4, c5⟩ := unhide HXI w4 (unhide HFX)
              simp only at c0 c1 c2 c3 c4 c5
              obtain ⟨ao1, cap1, v1, g1, hrun, hK1, hG1⟩ := append_tp (u := w4.drew) (((unhide HD).els DD (by simp)).1.keep (by omega) ((Fr.refl (fun _ => False) w4).drew)) (unhide HB100) ⟨d1, k1, t1, q1, p1, m1⟩ 22
              have hDk := (unhide HD).keep (((Fr.refl (fun _ => False) w4).drew).alloc (.cells #[.int .i64 d1, .int .i64 k1, .string t1, .int .i64 q1, .int .i64 p1, .int .i64 m1] 24))
              obtain ⟨hD2, hF2, ha2, ha3⟩ := hDk.grew (by simp; have := (unhide HFX).size; omega) hK1 hG1
              have HF2 : Hid (Fr (fun _ => False) w (v1.setCell ⟨g2, DS.length, none⟩ (.slice ao1 (DD.tp.length + 1) cap1))) := hide (((unhide HFX).trans (((Fr.refl (fun _ => False) w4).drew).alloc (.cells #[.int .i64 d1, .int .i64 k1, .string t1, .int .i64 q1, .int .i64 p1, .int .i64 m1] 24)) (fun _ _ t => t)).trans hF2 (fun q hq t => by omega))
              have HNX : Hid (Fr (fun _ => False) w (v1.setCell ⟨g2, DS.length, none⟩ (.slice ao1 (DD.tp.length + 1) cap1)) ∧ DL w.heap.size (v1.setCell ⟨g2, DS.length, none⟩ (.slice ao1 (DD.tp.length + 1) cap1)) ao2 cap2 g2 (DS ++ [⟨ao1, cap1, g1, DD.tp ++ [⟨d1, k1, t1, q1, p1, m1⟩]⟩]) ∧ StD l (i + 1) (DS ++ [⟨ao1, cap1, g1, DD.tp ++ [⟨d1, k1, t1, q1, p1, m1⟩]⟩])) := hide ⟨unhide HF2, hD2, unhide HSTN ao1 cap1 g1⟩
              have HRUN := hide hrun
              have hrun2 : (Builtin.append_ #[22, 22] 22 #[.slice DD.ao DD.tp.length DD.cap, .slice (some ⟨w4.heap.size, 0, none⟩) 1 1]).run Tryz.prog (w4.alloc (.cells #[.int .i64 d1, .int .i64 k1, .string t1, .int .i64 q1, .int .i64 p1, .int .i64 m1] 24)).drew = .ok (.slice ao1 (DD.tp.length + 1) cap1) v1 := hrun
              have HRUN2 := hide hrun2
              have hlast : ∀ u, Fr (fun _ => False) w4 u → u.cell? ⟨g2, DS.length, none⟩ = some (.slice DD.ao DD.tp.length DD.cap) := fun u hu => by
                have k := ((unhide HD).keep hu).row.cells DS.length (by simp)
                rw [k]
                congr 1
                simp [DR.val]
              have a0 := hlast w4 (Fr.refl _ _)
              have a1 := hlast _ (((Fr.refl (fun _ => False) w4).drew).alloc (.cells #[.int .i64 d1, .int .i64 k1, .string t1, .int .i64 q1, .int .i64 p1, .int .i64 m1] 24))
              have a1b := hlast _ ((Fr.refl (fun _ => False) w4).alloc (.cells #[.int .i64 d1, .int .i64 k1, .string t1, .int .i64 q1, .int .i64 p1, .int .i64 m1] 24))
              have a2 : v1.cell? ⟨g2, DS.length, none⟩ = some (.slice DD.ao DD.tp.length DD.cap) := ha2
              have hcap : 0 < cap2 := by
                have hle := (unhide HD).row.le
                rw [List.length_map, List.length_append, List.length_singleton] at hle
                omega
              have hao : ao2 = some ⟨g2, 0, none⟩ := (unhide HD).row.ad hcap
              rw [hao] at HNX ⊢
              have hNl : (DS ++ [DD]).length = DS.length + 1 := by simp
              have hNl2 : (DS ++ [(⟨ao1, cap1, g1, DD.tp ++ [⟨d1, k1, t1, q1, p1, m1⟩]⟩ : DR)]).length = DS.length + 1 := by simp
              obtain ⟨N, hN⟩ : ∃ N, DS.length + 1 = N := ⟨_, rfl⟩
              rw [hN] at hNl hNl2
              first | rw [hNl] | rw [hN]
              have HN2 := hide hNl2
              obtain ⟨mm, hmm⟩ : ∃ mm, DS.length = mm := ⟨_, rfl⟩
              rw [hmm] at hN a0 a1 a1b a2 ha3 HNX
              have hbd := unhide HBD
              rw [hmm] at hbd
              have hw1 : IntKind.i64.wrap ((N : Int) - 1) = (mm : Int) := by rw [IntKind.wrap_i64]; omega
              have hx0 : (0 : Int) ≤ (mm : Int) := by omega
              have hx1 : (mm : Int) < (N : Int) := by omega
              have hx2 : decide ((0 : Int) ≤ (mm : Int)) = true := by simp
              have hx3 : decide ((mm : Int) < (N : Int)) = true := by simp; omega
              have hx4 : ((mm : Int)).toNat = mm := by simp
              have HNL := hide hNl
              have HIL := hide hil
              clear hao hN hmm hNl hNl2 hrun hrun2 hK1 hG1 hDk hD2 hF2 HF2 ha2 hlast hcap hbd hil
              go_wp2_with fail
              go_region_law (first | refine step_append_runJ rfl (.tmp 46) (.tmp 51) 22 22 rfl rfl rfl (unhide HRUN) ?_ | refine step_append_runJ rfl (.tmp 46) (.tmp 51) 22 22 rfl rfl rfl (unhide HRUN2) ?_)
              all_goals
                clear a0 a1 a1b a2 ha3 c0 c1 c2 c3 c4 c5 HRUN HRUN2
                have hil := unhide HIL
                rw [← unhide HN2]
                go_wp2
                exact ⟨⟨i + 1, _, _, _, _, hil, rfl, by go_num, HNX⟩, by simp [intOf]; omega⟩
      · obtain rfl : i = l.length := by omega
        have hlt : ¬ (l.length : Int) < (l.length : Int) := by omega
        have HZ : Hid (∃ ao' cap' g' ds', Ending.returned (.tuple #[.slice ao ds.length cap, .int .i64 0]) = .returned (.tuple #[.slice ao' ds'.length cap', .int .i64 0]) ∧ DL w.heap.size wr ao' cap' g' ds' ∧ ds'.map DR.tp = daysL l ∧ Fr (fun _ => False) w wr) := hide ⟨ao, cap, g, ds, rfl, (unhide HI).2.1, by
          rw [← unhide HDD]
          rcases (unhide HI).2.2 with ⟨h0, rfl⟩ | ⟨k, ds0, dd, hk, h0, rfl, hgr, _⟩
          · have : l = [] := List.eq_nil_of_length_eq_zero h0
            rw [this]; rfl
          · rw [← hgr, ← h0, List.drop_length, grp_nil]
            simp, (unhide HI).1⟩
        clear HI HDD HR RD H
        go_wp2
        go_ret2
        exact unhide HZ
  · have HR := hide hr
    rw [if_neg hr]
    have hb2 : (rightT l == 0) = false := by simp [hr]
    have hb3 : (rightT l != 0) = true := by simp [hr]
    generalize rightT l = rr at *
    clear hr
    go_enter Tryz.func10, Tryz.ntmps10
    go_wp2_with fail
    refine (unhide RR).mono ?_
    rintro e w1 ⟨rfl, hF1⟩
    have HF1 := hide hF1
    clear hF1 RR H
    go_wp2
    go_ret2
    exact ⟨none, 0, 0, [], rfl, DL.nil _ _, rfl, unhide HF1⟩

end Go.Proofs.YtmgejkenpfihmaaGreat

/- The law's own sameDays: two rows of days that hold the same taps are the same. -/
namespace Go.Proofs.YtmgejkenpfihmaaGreat
open Go.RowKit

/-- Rows of taps as they are read. -/
def DV (w : World) (ao : Option Addr) (cap g : Nat) (ds : List DR) : Prop := KRow w ao cap g 1 (ds.map DR.val) ∧ ∀ d ∈ ds, KRow w d.ao d.cap d.g 6 (tpV d.tp)
theorem DL.dv {M : Nat} {w : World} {ao : Option Addr} {cap g : Nat} {ds : List DR} (h : DL M w ao cap g ds) : DV w ao cap g ds := ⟨h.row, fun d hd => (h.els d hd).1⟩
theorem DV.keep {w w' : World} {ao : Option Addr} {cap g : Nat} {ds : List DR} (h : DV w ao cap g ds) (hf : Fr (fun _ => False) w w') : DV w' ao cap g ds := ⟨h.1.keep (by omega) hf, fun d hd => (h.2 d hd).keep (by omega) hf⟩
theorem DV.cell {w : World} {ao : Option Addr} {cap g : Nat} {ds : List DR} (h : DV w ao cap g ds) {i : Nat} {d : DR} (hd : ds[i]? = some d) : ao = some ⟨g, 0, none⟩ ∧ w.cell? ⟨g, i, none⟩ = some (.slice d.ao d.tp.length d.cap) ∧ KRow w d.ao d.cap d.g 6 (tpV d.tp) := by
  have hi := (List.getElem?_eq_some_iff.1 hd).1
  have hle := h.1.le
  rw [List.length_map] at hle
  have hc : 0 < cap := by
    rcases Nat.eq_zero_or_pos cap with e | e
    · subst e; omega
    · exact e
  have h1 := h.1.cells i (by simpa using hi)
  refine ⟨h.1.ad hc, ?_, h.2 d (List.mem_of_getElem? hd)⟩
  rw [h1]
  congr 1
  rw [List.getElem_map]
  have h3 : ds[i] = d := by rw [List.getElem?_eq_getElem hi] at hd; exact Option.some.inj hd
  rw [h3]
  rfl

set_option maxHeartbeats 2000000 in
set_option maxRecDepth 20000 in
theorem sameDays_any (w : World) (ao bo : Option Addr) (ac bc ga gb : Nat) (A B : List DR) (ha : DV w ao ac ga A) (hb : DV w bo bc gb B) (hs : A.map DR.tp = B.map DR.tp) (hl : A.length ≤ 100000) :
    Calls Tryz.prog 11 #[.slice ao A.length ac, .slice bo B.length bc] w fun e w' => e = .returned (.bool true) ∧ Fr (fun _ => False) w w' := by
  have q1 : Tryz.prog.eqGuardType Tryz.prog.depth 24 = false := by kernel_rfl
  have q2 := eqTapJ
  have hlen : B.length = A.length := by have := congrArg List.length hs; simpa using this.symm
  rw [hlen]
  have HA := hide ha
  have HB := hide hb
  have HS := hide hs
  have HLE := hide hlen
  have hself : ((A.length : Int) != (A.length : Int)) = false := by simp
  clear ha hb hs hlen
  go_enter Tryz.func11, Tryz.ntmps11
  go_wp2
  go_loopw [5, 6] (fun iv _ wr => ∃ i : Nat, i ≤ A.length ∧ iv = .int .i64 i ∧ Hid (Fr (fun _ => False) w wr)) (fun iv _ _ => A.length - (intOf iv).toNat)
  case atStart => exact ⟨0, Nat.zero_le _, rfl, hide (Fr.refl _ _)⟩
  case round =>
    obtain ⟨i, hi, rfl, HI⟩ := hrel
    clear hself
    by_cases hil : i < A.length
    · have hlt : (i : Int) < (A.length : Int) := by omega
      have hia : A[i]? = some A[i] := List.getElem?_eq_getElem hil
      have hib : B[i]? = some (B[i]'(by have := unhide HLE; omega)) := List.getElem?_eq_getElem (by have := unhide HLE; omega)
      have htp : (A[i]).tp = (B[i]'(by have := unhide HLE; omega)).tp := by
        have e1 := congrArg (fun z => z[i]?) (unhide HS)
        simp only [List.getElem?_map, hia, hib, Option.map_some] at e1
        exact Option.some.inj e1
      have HKA := hide (fun (u : World) (hu : Fr (fun _ => False) w u) => ((unhide HA).keep hu).cell hia)
      have HKB := hide (fun (u : World) (hu : Fr (fun _ => False) w u) => ((unhide HB).keep hu).cell hib)
      generalize A[i] = dA at *
      generalize (B[i]'(by have := unhide HLE; omega)) = dB at *
      obtain ⟨oa, ca, da, tA⟩ := dA
      obtain ⟨ob, cb, db, tB⟩ := dB
      simp only at htp HKA HKB
      subst htp
      obtain ⟨n, hn⟩ : ∃ n, tA.length = n := ⟨_, rfl⟩
      obtain ⟨rfl, x0, _⟩ := unhide HKA wr (unhide HI)
      obtain ⟨rfl, y0, _⟩ := unhide HKB wr (unhide HI)
      rw [hn] at x0 y0
      have hnn : ((n : Int) != (n : Int)) = false := by simp
      have HNN := hide hn
      clear hn hia hib
      go_upto_region 6 with (fail)
      go_region_held3 (fun u => u.cell? ⟨ga, i, none⟩ = some (.slice oa n ca) ∧ u.cell? ⟨gb, i, none⟩ = some (.slice ob n cb)) (go_keep) (fail)
      all_goals
        clear x0 y0
        go_upto_region 8 with (fail)
        obtain ⟨wi, hwi⟩ : ∃ wi, wi = wr.drew := ⟨_, rfl⟩
        rw [← hwi]
        have HJ0 : Hid (Fr (fun _ => False) w wi) := hide (by rw [hwi]; exact (unhide HI).drew)
        clear hwi HI
        go_wp2
        go_loopw [6] (fun jv wj => ∃ j : Nat, j ≤ n ∧ jv = .int .i64 j ∧ Hid (Fr (fun _ => False) w wj)) (fun jv _ => n - (intOf jv).toNat)
        case atStart => exact ⟨0, Nat.zero_le _, rfl, HJ0⟩
        case round =>
          obtain ⟨j, hj, rfl, HJ⟩ := hrel
          clear HJ0
          obtain ⟨wj, hwj⟩ : ∃ wj, wj = wr := ⟨_, rfl⟩
          subst hwj
          obtain ⟨_, x0, kA⟩ := unhide HKA wj (unhide HJ)
          obtain ⟨_, y0, kB⟩ := unhide HKB wj (unhide HJ)
          rw [unhide HNN] at x0 y0
          have hn2 : n ≤ 9223372036854775807 := by
            have a := kA.le
            have b := kA.max
            rw [tpV_length, unhide HNN] at a
            simp only [maxLen] at b
            omega
          by_cases hjn : j < n
          · as_aux_lemma =>
            have hltj : (j : Int) < (n : Int) := by omega
            have hjt : j < tA.length := by have := unhide HNN; omega
            have hcA : 0 < ca := by
              have hle := kA.le
              rw [tpV_length] at hle
              rcases Nat.eq_zero_or_pos ca with e | e
              · subst e; omega
              · exact e
            have hcB : 0 < cb := by
              have hle := kB.le
              rw [tpV_length] at hle
              rcases Nat.eq_zero_or_pos cb with e | e
              · subst e; omega
              · exact e
            have hoa := kA.ad hcA
            have hob := kB.ad hcB
            have gA := tpV_cell kA (k := j) (b := tA[j]) (List.getElem?_eq_getElem hjt)
            have gB := tpV_cell kB (k := j) (b := tA[j]) (List.getElem?_eq_getElem hjt)
            generalize tA[j] = x at *
            obtain ⟨d, k, t, q, p, m⟩ := x
            rw [hoa] at x0
            rw [hob] at y0
            have a0 : wj.cell? ⟨da, j * 6, none⟩ = some (.int .i64 d) := gA 0 (by omega) _ rfl
            have a1 : wj.cell? ⟨da, j * 6 + 1, none⟩ = some (.int .i64 k) := gA 1 (by omega) _ rfl
            have a2 : wj.cell? ⟨da, j * 6 + 2, none⟩ = some (.string t) := gA 2 (by omega) _ rfl
            have a3 : wj.cell? ⟨da, j * 6 + 3, none⟩ = some (.int .i64 q) := gA 3 (by omega) _ rfl
            have a4 : wj.cell? ⟨da, j * 6 + 4, none⟩ = some (.int .i64 p) := gA 4 (by omega) _ rfl
            have a5 : wj.cell? ⟨da, j * 6 + 5, none⟩ = some (.int .i64 m) := gA 5 (by omega) _ rfl
            have b0 : wj.cell? ⟨db, j * 6, none⟩ = some (.int .i64 d) := gB 0 (by omega) _ rfl
            have b1 : wj.cell? ⟨db, j * 6 + 1, none⟩ = some (.int .i64 k) := gB 1 (by omega) _ rfl
            have b2 : wj.cell? ⟨db, j * 6 + 2, none⟩ = some (.string t) := gB 2 (by omega) _ rfl
            have b3 : wj.cell? ⟨db, j * 6 + 3, none⟩ = some (.int .i64 q) := gB 3 (by omega) _ rfl
            have b4 : wj.cell? ⟨db, j * 6 + 4, none⟩ = some (.int .i64 p) := gB 4 (by omega) _ rfl
            have b5 : wj.cell? ⟨db, j * 6 + 5, none⟩ = some (.int .i64 m) := gB 5 (by omega) _ rfl
            clear gA gB hcA hcB hoa hob kA kB
            go_upto_region 11 with (fail)
            go_region_held3 (fun u => u.cell? ⟨ga, i, none⟩ = some (.slice (some ⟨da, 0, none⟩) n ca) ∧ u.cell? ⟨gb, i, none⟩ = some (.slice (some ⟨db, 0, none⟩) n cb) ∧ u.cell? ⟨da, j * 6, none⟩ = some (.int .i64 d) ∧ u.cell? ⟨da, j * 6 + 1, none⟩ = some (.int .i64 k) ∧ u.cell? ⟨da, j * 6 + 2, none⟩ = some (.string t) ∧ u.cell? ⟨da, j * 6 + 3, none⟩ = some (.int .i64 q) ∧ u.cell? ⟨da, j * 6 + 4, none⟩ = some (.int .i64 p) ∧ u.cell? ⟨da, j * 6 + 5, none⟩ = some (.int .i64 m) ∧ u.cell? ⟨db, j * 6, none⟩ = some (.int .i64 d) ∧ u.cell? ⟨db, j * 6 + 1, none⟩ = some (.int .i64 k) ∧ u.cell? ⟨db, j * 6 + 2, none⟩ = some (.string t) ∧ u.cell? ⟨db, j * 6 + 3, none⟩ = some (.int .i64 q) ∧ u.cell? ⟨db, j * 6 + 4, none⟩ = some (.int .i64 p) ∧ u.cell? ⟨db, j * 6 + 5, none⟩ = some (.int .i64 m)) (go_keep) (fail)
            all_goals
              clear x0 y0 a0 a1 a2 a3 a4 a5 b0 b1 b2 b3 b4 b5
              go_wp2
              exact ⟨⟨j + 1, by omega, by go_num, hide (by repeat (first | (with_reducible exact unhide HJ) | (with_reducible refine Fr.drew ?_) | (with_reducible refine Fr.drewN ?_ _)))⟩, by simp [intOf]; omega⟩
          · obtain rfl : j = n := by omega
            have hltj : ¬ (j : Int) < (j : Int) := by omega
            clear kA kB
            go_wp2
            exact ⟨⟨i + 1, by omega, by go_num, HJ⟩, by simp [intOf]; omega⟩
    · obtain rfl : i = A.length := by omega
      have hlt : ¬ (A.length : Int) < (A.length : Int) := by omega
      go_wp2
      go_ret
      exact ⟨rfl, unhide HI⟩

end Go.Proofs.YtmgejkenpfihmaaGreat

/- Rows of days that their owner writes over. -/
namespace Go.Proofs.YtmgejkenpfihmaaGreat
open Go.RowKit

def tk5 : Tp := ⟨-5, 0, ⟨#[]⟩, 0, 0, 0⟩
def tk6 : Tp := ⟨-6, 0, ⟨#[]⟩, 0, 0, 0⟩

/-- One row is turned, or moved. -/
theorem DL.setAt {M : Nat} {u u' : World} {ao : Option Addr} {cap g : Nat} {ds : List DR} {i : Nat} {d d' : DR} (h : DL M u ao cap g ds) (hd : ds[i]? = some d) (hrow : KRow u' ao cap g 1 ((ds.set i d').map DR.val)) (hk : KRow u' d'.ao d'.cap d'.g 6 (tpV d'.tp))
    (hf : Fr (fun q => (q = g ∧ 0 < cap) ∨ (q = d.g ∧ 0 < d.cap)) u u') (hg : 0 < d'.cap → M ≤ d'.g ∧ (0 < cap → d'.g ≠ g) ∧ ((d'.g = d.g ∧ 0 < d.cap) ∨ u.heap.size ≤ d'.g)) : DL M u' ao cap g (ds.set i d') := by
  obtain ⟨hi, hd'⟩ := List.getElem?_eq_some_iff.1 hd
  have hap := List.pairwise_iff_getElem.1 h.apart
  have hother : ∀ (j : Nat) (hj : j < ds.length), j ≠ i → 0 < (ds[j]).cap → 0 < d.cap → (ds[j]).g ≠ d.g := fun j hj hji h1 h2 => by
    rcases Nat.lt_or_gt_of_ne hji with q | q
    · have := hap j i hj hi q h1 (by rw [hd']; exact h2)
      rw [hd'] at this; exact this
    · have := hap i j hi hj q (by rw [hd']; exact h2) h1
      rw [hd'] at this; exact fun e => this e.symm
  have hin : ∀ e ∈ ds.set i d', e = d' ∨ ∃ (j : Nat) (hj : j < ds.length), j ≠ i ∧ ds[j] = e := fun e he => by
    obtain ⟨j, hj, hje⟩ := List.getElem_of_mem he
    rw [List.length_set] at hj
    by_cases q : j = i
    · subst q
      rw [List.getElem_set_self] at hje
      exact .inl hje.symm
    · rw [List.getElem_set_ne (fun e => q e.symm)] at hje
      exact .inr ⟨j, hj, q, hje⟩
  refine ⟨hrow, h.new, fun e he => ?_, List.pairwise_iff_getElem.2 fun a b ha hb hab h1 h2 => ?_⟩
  · rcases hin e he with rfl | ⟨j, hj, hji, rfl⟩
    · exact ⟨hk, fun hc => ⟨(hg hc).1, (hg hc).2.1⟩⟩
    · have k := h.els ds[j] (List.getElem_mem hj)
      exact ⟨k.1.stay (fun hc => hf.block _ (k.1.lt (by omega) hc) (fun t => by
        rcases t with t | t
        · exact (k.2 hc).2 t.2 t.1
        · exact hother j hj hji hc t.2 t.1)), k.2⟩
  · have ha' : a < ds.length := by simpa using ha
    have hb' : b < ds.length := by simpa using hb
    by_cases qa : a = i
    · subst qa
      have qb : b ≠ a := by omega
      rw [List.getElem_set_self] at h1 ⊢
      rw [List.getElem_set_ne (fun e => qb e.symm)] at h2 ⊢
      rcases (hg h1).2.2 with ⟨e1, e2⟩ | e1
      · rw [e1]; exact fun e => hother b hb' qb h2 e2 e.symm
      · have := (h.els ds[b] (List.getElem_mem hb')).1.lt (by omega) h2; omega
    · rw [List.getElem_set_ne (fun e => qa e.symm)] at h1 ⊢
      by_cases qb : b = i
      · subst qb
        rw [List.getElem_set_self] at h2 ⊢
        rcases (hg h2).2.2 with ⟨e1, e2⟩ | e1
        · rw [e1]; exact hother a ha' qa h1 e2
        · have := (h.els ds[a] (List.getElem_mem ha')).1.lt (by omega) h1; omega
      · rw [List.getElem_set_ne (fun e => qb e.symm)] at h2 ⊢
        exact hap a b ha' hb' hab h1 h2

/-- Where the owner of x may write: in x's own blocks, or in new ones. -/
def Own (Mx My T q : Nat) : Prop := (Mx ≤ q ∧ q < My) ∨ T ≤ q

/-- The rows x that are written over: what stood at u0 elsewhere stands. -/
structure XS (u0 u : World) (Mx My T : Nat) (ax : Option Addr) (cx gx nx : Nat) (ds : List DR) : Prop where
  dl : DL Mx u ax cx gx ds
  ln : ds.length = nx
  gm : 0 < cx → gx < My
  els : ∀ d ∈ ds, (0 < d.cap → d.g < My ∨ T ≤ d.g) ∧ d.tp.length ≤ 100000
  sz : T ≤ u.heap.size
  fr : Fr (Own Mx My T) u0 u

theorem XS.keep {u0 u u' : World} {Mx My T : Nat} {ax : Option Addr} {cx gx nx : Nat} {ds : List DR} (h : XS u0 u Mx My T ax cx gx nx ds) (hf : Fr (fun _ => False) u u') : XS u0 u' Mx My T ax cx gx nx ds :=
  ⟨h.dl.keep hf, h.ln, h.gm, h.els, Nat.le_trans h.sz hf.size, h.fr.trans hf (fun _ _ t => t.elim)⟩

theorem XS.setAt {u0 u u' : World} {Mx My T : Nat} {ax : Option Addr} {cx gx nx : Nat} {ds : List DR} {i : Nat} {d d' : DR} (h : XS u0 u Mx My T ax cx gx nx ds) (hd : ds[i]? = some d) (hrow : KRow u' ax cx gx 1 ((ds.set i d').map DR.val)) (hk : KRow u' d'.ao d'.cap d'.g 6 (tpV d'.tp))
    (hf : Fr (fun q => (q = gx ∧ 0 < cx) ∨ (q = d.g ∧ 0 < d.cap)) u u') (hg : 0 < d'.cap → Mx ≤ d'.g ∧ (0 < cx → d'.g ≠ gx) ∧ ((d'.g = d.g ∧ 0 < d.cap) ∨ u.heap.size ≤ d'.g)) (hl : d'.tp.length ≤ 100000) : XS u0 u' Mx My T ax cx gx nx (ds.set i d') := by
  have hm := List.mem_of_getElem? hd
  refine ⟨h.dl.setAt hd hrow hk hf hg, by rw [List.length_set]; exact h.ln, h.gm, fun e he => ?_, Nat.le_trans h.sz hf.size, h.fr.trans hf (fun q hq t => ?_)⟩
  · rcases List.mem_or_eq_of_mem_set he with q | q
    · exact h.els e q
    · subst q
      refine ⟨fun hc => ?_, hl⟩
      rcases (hg hc).2.2 with ⟨e1, e2⟩ | e1
      · rw [e1]; exact (h.els d hm).1 e2
      · exact .inr (Nat.le_trans h.sz e1)
  · rcases t with t | t
    · exact .inl ⟨by rw [t.1]; exact h.dl.new t.2, by rw [t.1]; exact h.gm t.2⟩
    · have h1 := ((h.dl.els d hm).2 t.2).1
      rcases (h.els d hm).1 t.2 with q2 | q2
      · exact .inl ⟨by rw [t.1]; exact h1, by rw [t.1]; exact q2⟩
      · exact .inr (by rw [t.1]; exact q2)

/-- What was answered later than x, and ahead of the writing, stands. -/
theorem DL.apartX {u0 u : World} {Mx My T M : Nat} {ao : Option Addr} {cap g : Nat} {ds : List DR} (h : DL M u0 ao cap g ds) (hT : u0.heap.size ≤ T) (hM : My ≤ M) (hf : Fr (Own Mx My T) u0 u) : DV u ao cap g ds :=
  ⟨h.row.stay (fun hc => hf.block _ (h.row.lt (by omega) hc) (fun t => by
    have := h.new hc
    have := h.row.lt (by omega) hc
    rcases t with t | t <;> omega)), fun d hd => (h.els d hd).1.stay (fun hc => hf.block _ ((h.els d hd).1.lt (by omega) hc) (fun t => by
    have := ((h.els d hd).2 hc).1
    have := (h.els d hd).1.lt (by omega) hc
    rcases t with t | t <;> omega))⟩

theorem tpV_set5 : ∀ (l : List Tp) (k : Nat), k < l.length → tpV (l.set k tk5) = ((((((tpV l).set (k * 6) (.int .i64 (-5))).set (k * 6 + 1) (.int .i64 0)).set (k * 6 + 2) (.string ⟨#[]⟩)).set (k * 6 + 3) (.int .i64 0)).set (k * 6 + 4) (.int .i64 0)).set (k * 6 + 5) (.int .i64 0) := by
  intro l
  induction l with
  | nil => intro k hk; simp at hk
  | cons x r ih =>
    intro k hk
    cases k with
    | zero => simp [tpV, tpL, tk5]
    | succ k =>
      have hk' : k < r.length := by simpa using hk
      rw [List.set_cons_succ]
      show tpL x ++ tpV (r.set k tk5) = _
      rw [ih k hk', show (k + 1) * 6 = k * 6 + 6 by omega]
      simp [tpV, tpL, Nat.add_right_comm _ 6]

theorem map_val_set {ds : List DR} {i : Nat} {d d' : DR} (hd : ds[i]? = some d) (hv : d'.val = d.val) : (ds.set i d').map DR.val = ds.map DR.val := by
  apply List.ext_getElem?
  intro j
  rw [List.getElem?_map, List.getElem?_map]
  by_cases q : i = j
  · subst q
    rw [List.getElem?_set_self (List.getElem?_eq_some_iff.1 hd).1, hd, Option.map_some, Option.map_some, hv]
  · rw [List.getElem?_set_ne q]

/-- One tap of x is written over. -/
theorem XS.put {u0 u : World} {Mx My T : Nat} {ax : Option Addr} {cx gx nx : Nat} {ds : List DR} {i k : Nat} {d : DR} (h : XS u0 u Mx My T ax cx gx nx ds) (hd : ds[i]? = some d) (hk : k < d.tp.length) :
    XS u0 ((((((u.setCell ⟨d.g, k * 6, none⟩ (.int .i64 (-5))).setCell ⟨d.g, k * 6 + 1, none⟩ (.int .i64 0)).setCell ⟨d.g, k * 6 + 2, none⟩ (.string ⟨#[]⟩)).setCell ⟨d.g, k * 6 + 3, none⟩ (.int .i64 0)).setCell ⟨d.g, k * 6 + 4, none⟩ (.int .i64 0)).setCell ⟨d.g, k * 6 + 5, none⟩ (.int .i64 0)) Mx My T ax cx gx nx (ds.set i ⟨d.ao, d.cap, d.g, d.tp.set k tk5⟩) ∧
    (∀ c, c < 6 → (∃ x, u.cell? ⟨d.g, k * 6 + c, none⟩ = some x) ∧ u.frozen? ⟨d.g, k * 6 + c, none⟩ = false) ∧ d.ao = some ⟨d.g, 0, none⟩ ∧ u.cell? ⟨gx, i, none⟩ = some (.slice d.ao d.tp.length d.cap) ∧ ax = some ⟨gx, 0, none⟩ := by
  have hm := List.mem_of_getElem? hd
  have hi := (List.getElem?_eq_some_iff.1 hd).1
  have hde : ds[i] = d := (List.getElem?_eq_some_iff.1 hd).2
  have kd := (h.dl.els d hm).1
  have hle := kd.le
  rw [tpV_length] at hle
  have hcd : 0 < d.cap := by
    rcases Nat.eq_zero_or_pos d.cap with e | e
    · rw [e] at hle; omega
    · exact e
  have hc := h.dl.dv.cell hd
  have hcx : 0 < cx := by
    have hle2 := h.dl.row.le
    rw [List.length_map] at hle2
    omega
  have hne := ((h.dl.els d hm).2 hcd).2 hcx
  have hf : Fr (fun q => q = d.g) u ((((((u.setCell ⟨d.g, k * 6, none⟩ (.int .i64 (-5))).setCell ⟨d.g, k * 6 + 1, none⟩ (.int .i64 0)).setCell ⟨d.g, k * 6 + 2, none⟩ (.string ⟨#[]⟩)).setCell ⟨d.g, k * 6 + 3, none⟩ (.int .i64 0)).setCell ⟨d.g, k * 6 + 4, none⟩ (.int .i64 0)).setCell ⟨d.g, k * 6 + 5, none⟩ (.int .i64 0)) := by
    repeat (with_reducible (first | exact Fr.refl _ _ | refine Fr.setB ?_ _ _))
  have hvl := tpV_length d.tp
  have hrow2 := ((((((kd.set1 (k * 6) (by omega) (.int .i64 (-5)) rfl).set1 (k * 6 + 1) (by simp; omega) (.int .i64 0) rfl).set1 (k * 6 + 2) (by simp; omega) (.string ⟨#[]⟩) rfl).set1 (k * 6 + 3) (by simp; omega) (.int .i64 0) rfl).set1 (k * 6 + 4) (by simp; omega) (.int .i64 0) rfl).set1 (k * 6 + 5) (by simp; omega) (.int .i64 0) rfl)
  refine ⟨h.setAt hd ?_ ?_ (hf.mono (fun q _ t => .inr ⟨t, hcd⟩)) (fun _ => ⟨((h.dl.els d hm).2 hcd).1, fun _ => hne, .inl ⟨rfl, hcd⟩⟩) (by rw [List.length_set]; exact (h.els d hm).2), fun c hc => ?_, kd.ad hcd, hc.2.1, hc.1⟩
  · have e : (ds.set i (⟨d.ao, d.cap, d.g, d.tp.set k tk5⟩ : DR)).map DR.val = ds.map DR.val := by
      exact map_val_set hd (by simp [DR.val])
    rw [e]
    exact h.dl.row.stay (fun _ => hf.block _ (h.dl.row.lt (by omega) hcx) (fun e => hne e.symm))
  · show KRow _ d.ao d.cap d.g 6 (tpV (d.tp.set k tk5))
    rw [tpV_set5 d.tp k hk]
    exact hrow2
  · have := kd.room (k * 6 + c) (by omega)
    exact ⟨Option.isSome_iff_exists.1 this.1, this.2⟩

/-- One row of x grows. -/
theorem XS.grow {u0 u u' : World} {Mx My T : Nat} {ax ao' : Option Addr} {cx gx nx cap' g' : Nat} {ds : List DR} {i : Nat} {d : DR} {x : Tp} (h : XS u0 u Mx My T ax cx gx nx ds) (hd : ds[i]? = some d) (hl : d.tp.length < 100000) (hM : Mx ≤ u.heap.size) (hK : KRow u' ao' cap' g' 6 (tpV (d.tp ++ [x]))) (hG : Grew u d.g d.cap u' g' cap') :
    XS u0 (u'.setCell ⟨gx, i, none⟩ (.slice ao' (d.tp.length + 1) cap')) Mx My T ax cx gx nx (ds.set i ⟨ao', cap', g', d.tp ++ [x]⟩) ∧ (∃ y, u'.cell? ⟨gx, i, none⟩ = some y) ∧ u'.frozen? ⟨gx, i, none⟩ = false := by
  have hm := List.mem_of_getElem? hd
  have hi := (List.getElem?_eq_some_iff.1 hd).1
  have hrl := h.dl.row.le
  rw [List.length_map] at hrl
  have hcx : 0 < cx := by omega
  have hgu : gx < u.heap.size := h.dl.row.lt (by omega) hcx
  have hf : Fr (fun q => q = d.g ∧ 0 < d.cap) u u' := by
    rcases hG with ⟨_, _, f⟩ | ⟨_, _, f⟩
    · exact f
    · exact f.mono (fun _ _ t => t.elim)
  have hne : ¬ (gx = d.g ∧ 0 < d.cap) := fun e => ((h.dl.els d hm).2 e.2).2 hcx e.1.symm
  have hrow : KRow u' ax cx gx 1 (ds.map DR.val) := h.dl.row.stay (fun _ => hf.block gx hgu hne)
  have hfs : Fr (fun q => q = gx) u' (u'.setCell ⟨gx, i, none⟩ (.slice ao' (d.tp.length + 1) cap')) := Fr.setB (Fr.refl _ _) _ _
  have hg' : 0 < cap' → Mx ≤ g' ∧ (0 < cx → g' ≠ gx) ∧ ((g' = d.g ∧ 0 < d.cap) ∨ u.heap.size ≤ g') := fun hc => by
    rcases hG with ⟨e1, e2, _⟩ | ⟨e1, _, _⟩
    · have h0 : 0 < d.cap := by omega
      have := (h.dl.els d hm).2 h0
      exact ⟨by omega, fun hx => by have := this.2 hx; omega, .inl ⟨e1, h0⟩⟩
    · exact ⟨by omega, fun _ => by omega, .inr e1⟩
  have hroom := hrow.room i (by omega)
  refine ⟨h.setAt hd ?_ (hK.stay (fun hc => hfs.block _ (hK.lt (by omega) hc) (fun t => (hg' hc).2.1 hcx t))) ((hf.mono (fun q _ t => .inr t)).trans hfs (fun q _ t => .inl ⟨t, hcx⟩)) hg' (by simp; omega), Option.isSome_iff_exists.1 hroom.1, hroom.2⟩
  have k := hrow.set1 i (by simpa using hi) (.slice ao' (d.tp.length + 1) cap') rfl
  have e2 : (ds.map DR.val).set i (.slice ao' (d.tp.length + 1) cap') = (ds.set i (⟨ao', cap', g', d.tp ++ [x]⟩ : DR)).map DR.val := by
    rw [List.map_set]
    simp [DR.val]
  rw [e2] at k
  exact k

end Go.Proofs.YtmgejkenpfihmaaGreat

