import Derived.Test.YtabhfeocelljdaaGreatDoorZG8
/- Got: what it answers lies in new memory. -/
namespace Go.Proofs.YtabhfeocelljdaaGreatDoor
open Go.RowKit Go.Maps

set_option maxHeartbeats 1000000 in
set_option maxRecDepth 20000 in
theorem got_fresh {w : World} {p : Nat} {n : Int} (h : RV w p n) (hn : 0 ≤ n ∧ n ≤ 4294967296) (f : Fm) (io : Option Addr) (ic : Nat) (bo : Option Addr) (bc : Nat) (hA : ∀ u, Fr (fun k => k = p) w u → f.At u io bo bc) (hk : f.kind = 1) (hm : f.may = true) :
    Calls Tryz.prog 21 #[.pointer (some ⟨p, 0, none⟩), .agg (f.cells io ic bo bc)] w fun e w' => ∃ ro rc, e = .returned (.slice ro (gotF n f).2.length rc) ∧ Hid (RV w' p (gotF n f).1 ∧ (∀ u, Fr (fun k => k < w.heap.size) w' u → ItsAt u ro (gotF n f).2) ∧ Fr (fun k => k = p) w w' ∧ (gotF n f).2.length ≤ rc) := by
  obtain ⟨hb0, hi1, hi8, hba, hbs, hsq, hl⟩ := Fm.may_one hm hk
  have hg : gotF n f = (max n f.base, if max n f.base < f.seq then [] else gotL (max n f.base) f.seq f.items) := by unfold gotF; rw [if_pos ⟨hk, hm⟩]
  rw [hg]
  obtain ⟨kd, ba, sq, its, bts⟩ := f
  simp only at hk hb0 hi1 hi8 hba hbs hsq hl
  subst hk
  simp only [Fm.cells]
  have HM := hide hm
  have HA := hide hA
  have HL := hide hl
  have hplt := h.lt
  have HB := hide (Bx.new w #[.int .i64 1, .int .i64 ba, .int .i64 sq, .slice io its.length ic, .slice bo bts.length bc] 25)
  have HR := hide (Bx.alloc h (.cells #[.int .i64 1, .int .i64 ba, .int .i64 sq, .slice io its.length ic, .slice bo bts.length bc] 25))
  have HF0 : Hid (Fr (fun _ => False) w (w.alloc (.cells #[.int .i64 1, .int .i64 ba, .int .i64 sq, .slice io its.length ic, .slice bo bts.length bc] 25))) := hide ((Fr.refl _ _).alloc _)
  obtain ⟨n', hn'⟩ : ∃ n', max n ba = n' := ⟨_, rfl⟩
  rw [hn']
  obtain ⟨ans, hans⟩ : ∃ ans, (if n' < sq then [] else gotL n' sq its) = ans := ⟨_, rfl⟩
  rw [hans]
  have HANS := hide hans
  have HNUM := hide (And.intro hi1 (And.intro hi8 (And.intro hba (And.intro hbs (And.intro hsq (And.intro hn hn'))))))
  clear h hA hl hm hg hans hi1 hi8 hba hbs hsq hn hn' hb0
  go_enter Tryz.func21, Tryz.ntmps21
  go_wp2_with fail
  refine (maybe_any _ ⟨1, ba, sq, its, bts⟩ io ic bo bc ((unhide HA w (Fr.refl _ _)).later (unhide HF0)).items).mono ?_
  rw [unhide HM]
  rintro e w1 ⟨rfl, h1⟩
  have HB1 := hide ((unhide HB).keep (unhide h1))
  have HR1 : Hid (RV w1 p n) := hide (Bx.keep (unhide HR) (unhide h1))
  have HF1 := hide ((unhide HF0).trans (unhide h1) (fun _ _ t => t))
  obtain ⟨B, hBe⟩ : ∃ B, w.heap.size = B := ⟨_, rfl⟩
  rw [hBe] at HB1
  have HPB : Hid (p < w.heap.size ∧ B = w.heap.size) := hide ⟨hplt, hBe.symm⟩
  have c0 : w1.cell? ⟨p, 0, none⟩ = some (.int .i64 n) := Bx.cell (unhide HR1) 0
  have f0 : w1.frozen? ⟨p, 0, none⟩ = false := Bx.frozen (unhide HR1) 0
  have d1 : w1.cell? ⟨B, 1, none⟩ = some (.int .i64 ba) := (unhide HB1).cell 1
  have HG : Hid (GK w p B n' #[.int .i64 1, .int .i64 ba, .int .i64 sq, .slice io its.length ic, .slice bo bts.length bc] [] none 0 0 [] (w1.setCell ⟨p, 0, none⟩ (.int .i64 n')).drew) := hide ⟨(Fr.setCell (S := fun k => k = p) ((unhide HF1).mono (fun _ _ t => t.elim)) (p := ⟨p, 0, none⟩) (fun _ => rfl) _).drew, by have := Bx.setCell (unhide HR1) 0 (.int .i64 n'); exact this, (unhide HB1).setOther (by omega) 0 _, QL.nil _ _ _, unhide HPB⟩
  have hmc : (n ≤ ba ∧ n' = ba) ∨ (ba < n ∧ n' = n) := by have := (unhide HNUM).2.2.2.2.2.2; omega
  clear HB HR HF0 h1 HR1 HB1
  obtain ⟨infoI, hii, hzi⟩ := Option.map_eq_some_iff.1 infoIt
  simp only [Prod.mk.injEq] at hzi
  have HII := hide (And.intro hii hzi)
  clear hii hzi
  have HIFE : Hid ((if n < ba then ba else n) = n') := hide (by split <;> omega)
  clear hmc
  go_wp2_with fail
  go_region_law (fail)
  all_goals
    rw [unhide HIFE]
    have HNN : Hid (0 ≤ n' ∧ n' ≤ 4294967296) := hide (by obtain ⟨a1, a2, a3, a4, a5, a6, a7⟩ := unhide HNUM; omega)
    have HCS : Hid (∃ cs : Array Value, cs[2]? = some (.int .i64 sq) ∧ cs[3]? = some (.slice io its.length ic) ∧ GK w p B n' cs [] none 0 0 [] (w1.setCell ⟨p, 0, none⟩ (.int .i64 n')).drew) := hide ⟨_, rfl, rfl, unhide HG⟩
    clear HG
    go_wp2_with fail
    generalize (w1.setCell ⟨p, 0, none⟩ (.int .i64 n')).drew = W3 at *
    obtain ⟨cs, hcs2, hcs3, hG⟩ := unhide HCS
    have HG := hide hG
    have HC2 := hide (And.intro hcs2 hcs3)
    clear hG HCS hcs2 hcs3 c0 f0 d1
    have c0 : W3.cell? ⟨p, 0, none⟩ = some (.int .i64 n') := Bx.cell (unhide HG).rv 0
    have d2 : W3.cell? ⟨B, 2, none⟩ = some (.int .i64 sq) := ((unhide HG).bx.cell 2).trans (unhide HC2).1
    have d3 : W3.cell? ⟨B, 3, none⟩ = some (.slice io its.length ic) := ((unhide HG).bx.cell 3).trans (unhide HC2).2
    by_cases hlt : n' < sq
    · have hd : decide (n' < sq) = true := by simp [hlt]
      have HAN : Hid (ans = []) := hide (by rw [← unhide HANS, if_pos hlt])
      clear hlt
      go_quiet (fail)
      go_wp2
      go_ret
      rw [unhide HAN]
      have hg := (unhide HG)
      exact ⟨none, 0, rfl, hide ⟨Bx.keep hg.rv ((Fr.refl _ _).drewN _), fun _ _ => ⟨fun h0 => absurd h0 (by simp), by simp⟩, hg.fr.drewN _, by simp⟩⟩
    · have hd : decide (n' < sq) = false := by simp; omega
      have HAN : Hid (ans = gotL n' sq its) := hide (by rw [← unhide HANS, if_neg hlt])
      clear hlt
      go_quiet (fail)
      have HGD := hide ((unhide HG).keep ((Fr.refl (fun _ => False) W3).drewN nq))
      go_wp2
      go_loopw [5, 37] (fun fv iv wr => ∃ (i : Nat) (ro : Option Addr) (rc rb : Nat) (es : List (Int × RD)), i ≤ its.length ∧ fv = .slice ro es.length rc ∧ iv = .int .i64 i ∧ Hid (GK w p B n' cs (gotL n' sq (its.take i)) ro rc rb es wr)) (fun _ iv _ => its.length - (intOf iv).toNat)
      case atStart => exact ⟨0, none, 0, 0, [], Nat.zero_le _, rfl, rfl, HGD⟩
      case round =>
        obtain ⟨i, ro, rc, rb, es, hi, rfl, rfl, HK⟩ := hrel
        by_cases hil : i < its.length
        · have hiI : (i : Int) < (its.length : Int) := by omega
          have HAR := (unhide HA wr (unhide HK).fr).items
          obtain ⟨bi, off, e, hc⟩ := HAR.cells (by show 0 < its.length; omega)
          obtain ⟨ao, cap, k1, k3⟩ := hc i hil
          subst e
          clear hc HAR
          have HTK := hide (gotL_append n' sq its i hil)
          have hl256 := unhide HL its[i] (List.getElem_mem hil)
          simp only at k1 k3
          generalize its[i] = x at *
          have e0 : wr.cell? ⟨p, 0, none⟩ = some (.int .i64 n') := Bx.cell (unhide HK).rv 0
          have e2 : wr.cell? ⟨B, 2, none⟩ = some (.int .i64 sq) := ((unhide HK).bx.cell 2).trans (unhide HC2).1
          obtain ⟨hs1, hs2, hi8⟩ : 0 ≤ sq ∧ sq ≤ 4294967296 ∧ its.length ≤ 8 := by obtain ⟨a1, a2, a3, a4, a5, a6, a7⟩ := unhide HNUM; omega
          have hi8I : (i : Int) ≤ 8 := by omega
          by_cases hge : n' ≤ sq + (i : Int)
          · have hd1 : decide (sq + (i : Int) ≥ n') = true := by simp; omega
            have hd2 : decide (n' ≤ sq + (i : Int)) = true := hd1
            have HTT : Hid (gotL n' sq (its.take (i + 1)) = gotL n' sq (its.take i) ++ [⟨sq + (i : Int), x⟩]) := hide (by rw [unhide HTK, if_pos hge])
            have HBT := hide k3
            have HEL : Hid (es.length = (gotL n' sq (its.take i)).length ∧ (gotL n' sq (its.take i)).length ≤ 8) := hide ⟨(unhide HK).ql.n1, Nat.le_trans (gotL_length _ _ _) (by rw [List.length_take]; omega)⟩
            clear hge k3 HTK
            go_wp2_with fail
            refine (clone_any wr ao cap x (unhide HBT).1 (unhide HBT).2.1 (unhide HBT).2.2).mono ?_
            rintro e w8 ⟨v8, g8, rfl, r1, r2, r3⟩
            obtain ⟨ao8, cap8, rfl, hle8, hmx8, had8, hrm8⟩ := r1.shape
            have HR8 := hide (And.intro r1 (And.intro r2 r3))
            have HK8 := hide (((unhide HK).keep r2).keep ((Fr.refl (fun _ => False) _).alloc (.cells #[.int .i64 (sq + (i : Int)), .slice ao8 x.length cap8] 47)))
            have HSR := hide (src_one (P := Tryz.prog) w8 [.int .i64 (sq + (i : Int)), .slice ao8 x.length cap8] 45 47 2 Tryz.underlying45 rfl (fun u hu => by simp only [List.mem_cons, List.not_mem_nil, or_false] at hu; rcases hu with rfl | rfl <;> rfl) (W := w8.alloc (.cells #[.int .i64 (sq + (i : Int)), .slice ao8 x.length cap8] 47)) (fun j => by rw [World.cell?_alloc_new]; simp))
            clear r1 r2 r3 had8 hrm8
            go_wp2_with (at_builtin; refine wpList_append_krow _ rfl (.tmp 52) (.tmp 57) 45 45 rfl 47 infoI _ 2 (by omega) Tryz.underlying45 (unhide HII).1 (unhide HII).2.1 rfl (unhide HII).2.2.1 rfl (unhide HK8).ql.row (flat2_len es) _ _ 1 rfl (unhide HSR) (by rw [(unhide HII).2.2.2]; have := (unhide HEL); omega) (by have := (unhide HEL); omega) ?_)
            intro ro9 rc9 w9 rb9 hkr hgr
            have HK9 := hide ((unhide HK8).next (d := ⟨ao8, x.length, cap8, g8⟩) (x := x) (by omega) ((unhide HR8).1.frame ((Fr.refl (fun _ => False) _).alloc _) (fun t => t)) rfl (fun _ => by
              have h1 := (unhide HR8).2.2
              have h2 := (unhide HK).fr.size
              have h3 := (unhide HK).bx.lt
              have h4 := (unhide HK).pB.2
              refine ⟨by show w.heap.size + 1 ≤ g8; omega, fun hc => ?_⟩
              have h5 := (unhide HK).ql.row.lt (by omega) hc
              show g8 ≠ rb
              omega) hkr hgr)
            clear hkr hgr HSR HK8 HR8
            go_wp2
            exact ⟨⟨i + 1, ro9, rc9, rb9, es ++ [(sq + (i : Int), ⟨ao8, x.length, cap8, g8⟩)], by omega, by rw [List.length_append, List.length_singleton], by go_num, hide (by rw [unhide HTT]; exact unhide HK9)⟩, by simp [intOf]; omega⟩
          · have hd1 : decide (sq + (i : Int) ≥ n') = false := by simp; omega
            have hd2 : decide (n' ≤ sq + (i : Int)) = false := hd1
            have HTT : Hid (gotL n' sq (its.take (i + 1)) = gotL n' sq (its.take i)) := hide (by rw [unhide HTK, if_neg hge, List.append_nil])
            clear hge k3 HTK
            go_wp2
            exact ⟨⟨i + 1, ro, rc, rb, es, by omega, rfl, by go_num, hide (by rw [unhide HTT]; exact unhide HK)⟩, by simp [intOf]; omega⟩
        · obtain rfl : i = its.length := by omega
          have HKE : Hid (GK w p B n' cs ans ro rc rb es wr) := hide (by rw [unhide HAN]; have := unhide HK; rw [List.take_length] at this; exact this)
          have HEL : Hid (es.length = ans.length) := hide (unhide HKE).ql.n1
          clear HK HGD HG
          go_wp2
          go_ret
          have hk := unhide HKE
          refine ⟨ro, rc, by rw [← unhide HEL]; rfl, hide ⟨hk.rv, fun u hu => (hk.ql.stay hu (fun i t => by have t : i < w.heap.size := t; omega)).its (by rw [unhide HAN]; have := gotL_length n' sq its; have := (unhide HNUM).2.1; omega), hk.fr, ?_⟩⟩
          have := hk.ql.row.le
          rw [flat2_len, unhide HEL] at this
          omega

end Go.Proofs.YtabhfeocelljdaaGreatDoor

