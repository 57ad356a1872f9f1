/- Proved: the law JourneyLies answers true for every tariff and every slice of taps, and its arguments read afterwards as they read before. No condition but the form's own reach. -/
import Derived.Test.YthgkifkcckandaaJNH
import Derived.Test.YthgkifkcckandaaJMX
import Derived.Test.YthgkifkcckandaaO1
import Derived.Test.YthgkifkcckandaaQO1
import Derived.Test.YthgkifkcckandaaJO1
/- The walk of JourneyLies. -/
namespace Go.Proofs.Ythgkifkcckandaa
open Go.RowKit

set_option maxRecDepth 100000 in
set_option maxHeartbeats 2000000 in
theorem lies_walk (w : World) (A : Ad) (t : Tf) (hT : TAt w A t) (ao0 : Option Addr) (cap0 : Nat) (l : List Tp) (h : CAt w ao0 (tpV l)) (hl : l.length ≤ 4398046511104) :
    Calls Try.prog 4 #[tv A t, .slice ao0 l.length cap0] w fun e w' => e = .returned (.bool true) ∧ Fr (fun _ => False) w w' := by
  have RB := hide (fun (u : World) (hu : Fr (fun _ => False) w u) => build_any u A t (hT.keep hu) ao0 cap0 l (h.keep hu) hl)
  have H := hide h
  have HTB := hide (TB.new w A t)
  obtain ⟨v, hv⟩ : ∃ v, v = w.alloc (.cells (tc A t) 27) := ⟨_, rfl⟩
  have hFv : Fr (fun _ => False) w v := by rw [hv]; exact (Fr.refl _ _).alloc _
  have HFV := hide hFv
  have HV := hide hv
  rw [← hv] at HTB
  obtain ⟨B, hB⟩ : ∃ B, B = w.heap.size := ⟨_, rfl⟩
  rw [← hB] at HTB
  have HBB := hide hB
  clear hFv hv hT h hB
  unfold tv
  unfold tc at HV ⊢
  go_enter Try.func4, Try.ntmps4
  go_upto_region 1 with (fail)
  rw [← unhide HBB, ← unhide HV]
  clear HV HBB
  go_wp2_with fail
  refine (awake_anyJ v).mono ?_
  rintro e w1 ⟨rfl, hF1⟩
  have HF1 := hide ((unhide HFV).trans hF1 (fun _ _ t => t))
  have HTB1 := hide ((unhide HTB).keep hF1)
  clear hF1 HFV HTB
  have RB1 := hide (unhide RB w1 (unhide HF1))
  clear RB
  go_wp2_with (refine wpList_load_tariff rfl (.tmp 2) rfl (g := B) (A := A) (t := t) rfl (unhide HTB1) ?_)
  refine (unhide RB1).mono ?_
  rintro e w2 ⟨aj, cj, gj, rfl, hK, hg, hF2⟩
  have HF2 := hide ((unhide HF1).trans hF2 (fun _ _ t => t))
  have HTB2 := hide ((unhide HTB1).keep hF2)
  have HK := hide hK
  clear hF2 HF1 HTB1 RB1 hK hg
  by_cases he : buildE (rightE t) l = 0
  · have hjj : buildJ (tmOf t) (rightE t) l = walkedJ (tmOf t) l := by unfold buildJ; rw [if_pos he]
    rw [he, hjj]
    rw [hjj] at HK
    obtain ⟨e1, e2, _⟩ := (buildE_zero _ _).1 he
    obtain ⟨hl2, hok⟩ := (rightT_zero l).1 e2
    have hlg : 0 ≤ (tmOf t).lng := (small_of e1).longest.1
    have HL := hide (fun i (hi : i < (walkedJ (tmOf t) l).length) => lies_math hlg hok hi)
    have HLE := hide (walked_le (tmOf t) l hl2)
    have HBJ := hide (fun i (hi : i < (walkedJ (tmOf t) l).length) => (by
      obtain ⟨h0, hj, _⟩ := lies_math hlg hok hi
      have h1 := hok.time 0 h0
      have h2 := hok.time (l.length - 1) (by omega)
      have := hj.lo; have := hj.le; have := hj.hi
      exact ⟨by omega, by omega⟩ : 0 ≤ (walkedJ (tmOf t) l)[i].st ∧ (walkedJ (tmOf t) l)[i].st ≤ 2147483648))
    have HSM := hide (small_of e1)
    have HOK := hide hok
    clear he hjj e1 e2 hok hlg
    obtain ⟨J, hJ⟩ : ∃ J, walkedJ (tmOf t) l = J := ⟨_, rfl⟩
    rw [hJ] at HK HL HBJ HLE ⊢
    clear hJ
    go_wp2_with fail
    go_loopw [8] (fun iv wr => ∃ i : Nat, i ≤ J.length ∧ iv = .int .i64 i ∧ Hid (Fr (fun _ => False) w2 wr)) (fun iv _ => J.length - (intOf iv).toNat)
    case atStart => exact ⟨0, Nat.zero_le _, rfl, hide (Fr.refl _ _)⟩
    case round =>
      obtain ⟨i, hi, rfl, HI⟩ := hrel
      have hJl := unhide HLE
      by_cases hil : i < J.length
      · obtain ⟨h0, hjk, hsoon⟩ := unhide HL i hil
        obtain ⟨j, hj⟩ : ∃ j, J[i] = j := ⟨_, rfl⟩
        have hgj : J[i]? = some j := by rw [List.getElem?_eq_getElem hil, hj]
        rw [hj] at hjk hsoon
        obtain ⟨haj, hcj, hcell⟩ := jV_cell ((unhide HK).keep (by omega) (unhide HI)) hgj
        subst haj
        have c0 : wr.cell? ⟨gj, i * 6, none⟩ = some (.int .i64 j.kind) := hcell 0 (by omega) _ rfl
        have c1 : wr.cell? ⟨gj, i * 6 + 1, none⟩ = some (.int .i64 j.fr) := hcell 1 (by omega) _ rfl
        have c2 : wr.cell? ⟨gj, i * 6 + 2, none⟩ = some (.int .i64 j.to) := hcell 2 (by omega) _ rfl
        have c3 : wr.cell? ⟨gj, i * 6 + 3, none⟩ = some (.int .i64 j.st) := hcell 3 (by omega) _ rfl
        have c4 : wr.cell? ⟨gj, i * 6 + 4, none⟩ = some (.int .i64 j.en) := hcell 4 (by omega) _ rfl
        have c5 : wr.cell? ⟨gj, i * 6 + 5, none⟩ = some (.bool j.free) := hcell 5 (by omega) _ rfl
        have hCw := ((unhide H).keep (unhide HF2)).keep (unhide HI)
        obtain ⟨b, off, hao, t0⟩ := hCw.tp h0
        obtain ⟨b', off', hao', t1⟩ := hCw.tp (i := l.length - 1) (by omega)
        rw [hao] at hao'
        injection hao' with hao'
        injection hao' with hb' ho'
        subst hb' ho'
        subst hao
        have m5 := t0.2.2.2.2.2
        have n5 := t1.2.2.2.2.2
        obtain ⟨q, hq⟩ : ∃ q, l.length - 1 = q := ⟨_, rfl⟩
        have hq1 : q < l.length := by omega
        have hT0 := (unhide HOK).time 0 h0
        have hT1 := (unhide HOK).time (l.length - 1) (by omega)
        simp only [hq] at n5 hjk hT1
        obtain ⟨lo, hlo⟩ : ∃ lo, (l[0]'h0).time = lo := ⟨_, rfl⟩
        obtain ⟨hi', hhi⟩ : ∃ hi', (l[q]'hq1).time = hi' := ⟨_, rfl⟩
        rw [hlo] at m5 hjk hT0
        rw [hhi] at n5 hjk hT1
        simp only [Nat.zero_mul, Nat.add_zero] at m5
        obtain ⟨k1, k4, klo, kle, khi, klng, kone, kfree⟩ := hjk
        have klng' : j.en - j.st ≤ t.longest := klng
        have x9 : wr.cell? ⟨B, 9, none⟩ = some (.int .i64 t.longest) := ((unhide HTB2).keep (unhide HI)).cell 9
        have f1 : ((l.length : Int) == 0) = false := by rw [beq_eq_false_iff_ne]; omega
        have f2 : decide (j.st < lo) = false := by simp; omega
        have f3 : decide (hi' < j.en) = false := by simp; omega
        have f4 : decide (j.en < j.st) = false := by simp; omega
        have f5 : decide (t.longest < j.en - j.st) = false := by simpa using klng'
        have w1' : IntKind.i64.wrap (j.en - j.st) = j.en - j.st := by rw [IntKind.wrap_i64]; omega
        have w2' : IntKind.i64.wrap ((l.length : Int) - 1) = (q : Int) := by rw [IntKind.wrap_i64]; omega
        have y0 : (0 : Int) ≤ (q : Int) := by omega
        have y1 : (q : Int) < (l.length : Int) := by omega
        have y2 : decide ((0 : Int) ≤ (q : Int)) = true := by simp
        have y3 : decide ((q : Int) < (l.length : Int)) = true := by simp; omega
        have y4 : ((q : Int)).toNat = q := by simp
        have y5 : (0 : Int) < (l.length : Int) := by omega
        have HS := hide hsoon
        have HBD : Hid (0 ≤ j.st ∧ j.st ≤ 2147483648) := hide ⟨by omega, by omega⟩
        have HIL := hide hil
        have HGJ := hide hgj
        obtain ⟨jk, jf, jt, js, je, jr⟩ := j
        simp only at c0 c1 c2 c3 c4 c5 f2 f3 f4 f5 w1' kone kfree k1 k4 HS HBD
        have HK2 := hide (And.intro kone (And.intro kfree (And.intro k1 k4)))
        clear hsoon hcell hCw t0 t1 hq hlo hhi hT0 hT1 klo kle khi klng klng' kone kfree k1 k4 hj hgj h0 hq1 hcj
        generalize hLL : (l.length : Int) = LL at *
        have hBn := Bx.new wr #[.int .i64 jk, .int .i64 jf, .int .i64 jt, .int .i64 js, .int .i64 je, .bool jr] 42
        obtain ⟨u, hu⟩ : ∃ u, u = wr.alloc (.cells #[.int .i64 jk, .int .i64 jf, .int .i64 jt, .int .i64 js, .int .i64 je, .bool jr] 42) := ⟨_, rfl⟩
        have hFu : Fr (fun _ => False) wr u := by rw [hu]; exact (Fr.refl _ _).alloc _
        rw [← hu] at hBn
        have HU := hide hu
        go_upto_region 9 with (fail)
        rw [← unhide HU]
        obtain ⟨K, hK⟩ : ∃ K, K = wr.heap.size := ⟨_, rfl⟩
        rw [← hK] at hBn ⊢
        have f : ∀ {a : Addr} {v : Value}, wr.cell? a = some v → u.cell? a = some v := fun {a v} e => (hFu.cell (World.block_lt_of_cell? _ _ e) (fun t => t)).trans e
        have HFu := hide hFu
        have HBn := hide hBn
        have hm5 := f m5
        have hn5 := f n5
        have hx9 := f x9
        have p0 : u.cell? ⟨K, 0, none⟩ = some (.int .i64 jk) := hBn.cell 0
        have p1 : u.cell? ⟨K, 1, none⟩ = some (.int .i64 jf) := hBn.cell 1
        have p2 : u.cell? ⟨K, 2, none⟩ = some (.int .i64 jt) := hBn.cell 2
        have p3 : u.cell? ⟨K, 3, none⟩ = some (.int .i64 js) := hBn.cell 3
        have p4 : u.cell? ⟨K, 4, none⟩ = some (.int .i64 je) := hBn.cell 4
        have p5 : u.cell? ⟨K, 5, none⟩ = some (.bool jr) := hBn.cell 5
        clear hBn hu hFu f HU hK m5 n5 x9 c0 c1 c2 c3 c4 c5
        go_cut [104] from 36 to 103 (fun v104 wd => v104 = .bool false ∧ Hid (Fr (fun _ => False) u wd))
        case first =>
          obtain ⟨kone, kfree, k1, k4⟩ := unhide HK2
          clear HK2 HS HBD HIL HGJ HI HLE HL HK H HOK HSM HTB2 HFu HBn HF2 hJl hl hl2 hil hi k1 k4
          simp only [List.append_eq, List.cons_append, List.nil_append]
          by_cases g1 : jk = 1
          · subst g1
            have g2 : jr = false := by
              cases jr
              · rfl
              · exact absurd (kfree rfl) (by decide)
            subst g2
            clear kone kfree
            go_quiet (fail)
            go_wp2_with fail
            go_meet
            exact ⟨rfl, by first | exact hide ((Fr.refl _ _).drewN _) | exact hide (Fr.refl _ _)⟩
          · obtain ⟨g3, g4⟩ := kone g1
            have g3b : (js != je) = false := by simp [g3]
            have g4b : (jf != jt) = false := by simp [g4]
            clear g3 g4
            have g1b : (jk != 1) = true := by simp [g1]
            have g1c : (jk == 1) = false := by simp [g1]
            cases jr with
            | false =>
              clear kone kfree g1
              go_quiet (fail)
              go_wp2_with fail
              go_meet
              exact ⟨rfl, by first | exact hide ((Fr.refl _ _).drewN _) | exact hide (Fr.refl _ _)⟩
            | true =>
              have g5 := kfree rfl
              subst g5
              clear kone kfree g1 g1b g1c
              go_quiet (fail)
              go_wp2_with fail
              go_meet
              exact ⟨rfl, by first | exact hide ((Fr.refl _ _).drewN _) | exact hide (Fr.refl _ _)⟩
        case rest =>
          obtain ⟨rfl, hFd⟩ := hcut
          have hFuw := unhide hFd
          have HB9 := hide ((unhide HBn).keep hFuw)
          have HFr : Hid (Fr (fun _ => False) wr wc) := hide ((unhide HFu).trans hFuw (fun _ _ t => t))
          have HF2c : Hid (Fr (fun _ => False) w2 wc) := hide ((unhide HI).trans (unhide HFr) (fun _ _ t => t))
          have HT9 := hide ((unhide HTB2).keep (unhide HF2c))
          clear hFuw hFd HFu HBn HI HFr hm5 hn5 hx9 p0 p1 p2 p3 p4 p5
          go_wp2_with fail
          go_loopw [10, 11] (fun sv kv wx => ∃ k : Nat, k ≤ i ∧ kv = .int .i64 k ∧ sv = .bool (soonB (tmOf t) ⟨jk, jf, jt, js, je, jr⟩ (J.take k)) ∧ Hid (Fr (fun _ => False) wc wx)) (fun _ kv _ => i - (intOf kv).toNat)
          case atStart => exact ⟨0, Nat.zero_le _, rfl, rfl, hide (Fr.refl _ _)⟩
          case round =>
            obtain ⟨k, hk, rfl, rfl, HX⟩ := hrel
            by_cases hki : k < i
            · have hkl : k < J.length := by have := unhide HIL; omega
              have HSS := hide (soonB_succ (tmOf t) ⟨jk, jf, jt, js, je, jr⟩ J k hkl)
              have hpb := unhide HBJ k hkl
              obtain ⟨y, hy⟩ : ∃ y, J[k] = y := ⟨_, rfl⟩
              have hgy : J[k]? = some y := by rw [List.getElem?_eq_getElem hkl, hy]
              rw [hy] at HSS hpb
              obtain ⟨_, _, hcell⟩ := jV_cell ((unhide HK).keep (by omega) ((unhide HF2c).trans (unhide HX) (fun _ _ t => t))) hgy
              have c0 : wr.cell? ⟨gj, k * 6, none⟩ = some (.int .i64 y.kind) := hcell 0 (by omega) _ rfl
              have c3 : wr.cell? ⟨gj, k * 6 + 3, none⟩ = some (.int .i64 y.st) := hcell 3 (by omega) _ rfl
              have c5 : wr.cell? ⟨gj, k * 6 + 5, none⟩ = some (.bool y.free) := hcell 5 (by omega) _ rfl
              have p3 : wr.cell? ⟨K, 3, none⟩ = some (.int .i64 js) := ((unhide HB9).keep (unhide HX)).cell 3
              have x7 : wr.cell? ⟨B, 7, none⟩ = some (.int .i64 t.hopper) := ((unhide HT9).keep (unhide HX)).cell 7
              have hbd := unhide HBD
              have w3 : IntKind.i64.wrap (js - y.st) = js - y.st := by rw [IntKind.wrap_i64]; omega
              obtain ⟨b1, hb1⟩ : ∃ b1, decide (y.kind = 4) = b1 := ⟨_, rfl⟩
              obtain ⟨b3, hb3⟩ : ∃ b3, decide (js - y.st ≤ t.hopper) = b3 := ⟨_, rfl⟩
              have HP : Hid (soonP (tmOf t) ⟨jk, jf, jt, js, je, jr⟩ y = (b1 && !y.free && b3)) := hide (by unfold soonP; rw [hb1, ← hb3]; rfl)
              have hb1b : (y.kind == 4) = b1 := by rw [← hb1]; by_cases q : y.kind = 4 <;> simp [q]
              obtain ⟨b2, hb2⟩ : ∃ b2, y.free = b2 := ⟨_, rfl⟩
              rw [hb2] at c5 HP
              rw [unhide HP] at HSS
              obtain ⟨sk, hsk⟩ : ∃ sk, soonB (tmOf t) ⟨jk, jf, jt, js, je, jr⟩ (J.take k) = sk := ⟨_, rfl⟩
              rw [hsk] at HSS ⊢
              have kI : (k : Int) < (J.length : Int) := by omega
              have hki2 : (k : Int) < (i : Int) := by omega
              have hJI : (J.length : Int) ≤ 4001 := by have := unhide HLE; omega
              have HKI := hide hki
              clear hy hgy hcell hpb hbd hb1 hb2 hsk HP HL HBJ HK H HOK HSM HTB2 HK2 HS HBD HIL HGJ HB9 HF2c HT9 HF2 hk hki hkl hil hi hJl hl hl2 HLE
              have HN : ∀ r, (sk || (b1 && !b2 && b3)) = r → Hid (soonB (tmOf t) ⟨jk, jf, jt, js, je, jr⟩ (J.take (k + 1)) = r) := fun r e => hide ((unhide HSS).trans e)
              cases sk with
              | true =>
                have HN1 := HN true (by simp)
                clear HN HSS
                go_wp2_with fail
                go_quiet (fail)
                go_wp2
                exact ⟨⟨k + 1, by have := unhide HKI; omega, by go_num, by rw [unhide HN1], by first | exact hide ((unhide HX).drewN _) | exact HX⟩, by have := unhide HKI; simp [intOf]; omega⟩
              | false =>
                cases b1 with
                | false =>
                  have HN1 := HN false (by simp)
                  clear HN HSS
                  go_wp2_with fail
                  go_quiet (fail)
                  go_wp2
                  exact ⟨⟨k + 1, by have := unhide HKI; omega, by go_num, by rw [unhide HN1], by first | exact hide ((unhide HX).drewN _) | exact HX⟩, by have := unhide HKI; simp [intOf]; omega⟩
                | true =>
                  cases b2 with
                  | true =>
                    have HN1 := HN false (by simp)
                    clear HN HSS
                    go_wp2_with fail
                    go_quiet (fail)
                    go_wp2
                    exact ⟨⟨k + 1, by have := unhide HKI; omega, by go_num, by rw [unhide HN1], by first | exact hide ((unhide HX).drewN _) | exact HX⟩, by have := unhide HKI; simp [intOf]; omega⟩
                  | false =>
                    have HN1 := HN b3 (by simp)
                    clear HN HSS
                    go_wp2_with fail
                    go_quiet (fail)
                    go_wp2
                    exact ⟨⟨k + 1, by have := unhide HKI; omega, by go_num, by rw [unhide HN1, ← hb3], by first | exact hide ((unhide HX).drewN _) | exact HX⟩, by have := unhide HKI; simp [intOf]; omega⟩
            · obtain rfl : k = i := by omega
              obtain ⟨sk, hsk⟩ : ∃ sk, soonB (tmOf t) ⟨jk, jf, jt, js, je, jr⟩ (J.take k) = sk := ⟨_, rfl⟩
              have HS1 : Hid (jk = 4 → jr = sk) := hide (by rw [← hsk]; exact unhide HS)
              rw [hsk]
              have p0 : wr.cell? ⟨K, 0, none⟩ = some (.int .i64 jk) := ((unhide HB9).keep (unhide HX)).cell 0
              have p5 : wr.cell? ⟨K, 5, none⟩ = some (.bool jr) := ((unhide HB9).keep (unhide HX)).cell 5
              have HFN : Hid (Fr (fun _ => False) w2 wr) := hide ((unhide HF2c).trans (unhide HX) (fun _ _ t => t))
              have kB : (k : Int) ≤ 4001 := by have := unhide HIL; have := unhide HLE; omega
              clear hsk HL HBJ HK H HOK HSM HTB2 HK2 HS HBD HGJ HB9 HF2c HT9 HF2 HX hk hki hil hi hJl hl hl2
              by_cases g1 : jk = 4
              · have e := unhide HS1 g1
                subst e
                subst g1
                have hne : (jr != jr) = false := by simp
                clear HS1
                go_wp2
                exact ⟨⟨k + 1, by have := unhide HIL; omega, by go_num, HFN⟩, by have := unhide HIL; simp [intOf]; omega⟩
              · have g1b : (jk == 4) = false := by simp [g1]
                clear HS1 g1
                go_wp2
                exact ⟨⟨k + 1, by have := unhide HIL; omega, by go_num, HFN⟩, by have := unhide HIL; simp [intOf]; omega⟩
      · obtain rfl : i = J.length := by omega
        clear HL HK H HOK HSM HTB2
        go_wp2
        go_ret
        exact ⟨rfl, (unhide HF2).trans (unhide HI) (fun _ _ t => t)⟩
  · have hb2 : (buildE (rightE t) l == 0) = false := by simp [he]
    have hb3 : (buildE (rightE t) l != 0) = true := by simp [he]
    generalize buildE (rightE t) l = ee at *
    clear HK HTB2 H
    go_wp2
    go_ret
    exact ⟨rfl, unhide HF2⟩

end Go.Proofs.Ythgkifkcckandaa

namespace Go.Proofs.Ythgkifkcckandaa
open Go.ChangeShapes Go.WideShapes Go.ChangeAt Go.RowKit Go.Deep

namespace journeyLies

set_option maxRecDepth 100000 in
theorem lifted (os : Os) (started : os.Started) (H : Type) (enc : TypeId × Value → H) :
    ReturnsInHanded {} Try.checked os 4 .any (Rows.journeyLiesSpec.pre6 enc Try.prog Try.f4 Rows.journeyLiesRow.domain false) (Rows.journeyLiesSpec.post enc Try.prog Try.f4 false true false false) := by
  refine returnsInHanded_of_change_sized (C := Try.checked) own started (by kernel_rfl) Try.func4
    (ChangeSpec.witness6 (enc := enc) (C := Try.checked) false ⟨#[], #[.agg #[.slice none 0 0, .slice none 0 0, .slice none 0 0, .float .f64 0, .int .i64 0, .int .i64 0, .int .i64 0, .int .i64 0, .int .i64 0, .int .i64 0, .int .i64 0, .int .i64 0, .int .i64 0, .int .i64 0], .slice none 0 0], []⟩ 8 (by kernel_rfl) (by kernel_rfl) (by kernel_rfl) (by kernel_rfl)) ?_
  intro W base args ds gs before hval0 hW hcnd hsz0 _
  have hsz : (DataW.weightsEach Try.prog (Try.f4.params.toList ++ Rows.journeyLiesSpec.plain.varTypes Try.prog) (ds ++ gs)).all (· ≤ reachBytes) = true := hsz0
  have hval : ∀ (j : Nat) t v, Try.f4.params[j]? = some t → args[j]? = some v → Value.okWide Try.prog W .any base t v := hval0
  have hW' := hW
  obtain ⟨p, q, hA0, hV, rfl, hfz, hnd⟩ := hW
  have hA : DataW.TrodAll enc Try.prog W 0 (fun _ => true) true Try.f4.params.toList args.toList ds p := hA0
  rw [Try.params4] at hA hval hsz
  obtain ⟨v0, vs0, d0, ds0, p0, q0, hargs, rfl, rfl, h0, r0⟩ := trodAll_cons hA
  obtain ⟨v1, vs1, d1, ds1, p1, q1, rfl, rfl, rfl, h1, r1⟩ := trodAll_cons r0
  obtain ⟨rfl, rfl, rfl⟩ := trodAll_nil r1
  obtain rfl : args = #[v0, v1] := by cases args; simp_all
  obtain ⟨rfl, rfl⟩ := trodVars_none hV
  have k0 := h0
  have lt0 : ∀ x ∈ p0, x.block < W.heap.size := by obtain ⟨m, hm⟩ := k0; exact DataW.trod_lt m _ _ _ hm
  obtain ⟨A0, t0, rfl, hT0⟩ := open_arg (j := 0) (okWide_struct Try.underlying27 (hval 0 27 v0 rfl rfl)) h0 hsz rfl rfl
  have k1 := h1
  have lt1 : ∀ x ∈ p1, x.block < W.heap.size := by obtain ⟨m, hm⟩ := k1; exact DataW.trod_lt m _ _ _ hm
  obtain ⟨a1, c1, l1, rfl, hb1, hc1, hn1⟩ := arg_taps (j := 1) (okWide_slice Try.underlying28 (hval 1 28 v1 rfl rfl)) h1 hsz rfl rfl
  clear hA0 hval0
  refine (lies_walk W A0 t0 hT0 a1 c1 l1 hb1 (by omega)).mono fun e W' ⟨he, hfr⟩ => ?_
  subst he
  have bel : Below W.heap.size W W' := hfr.below (Nat.le_refl _) (fun k t => t.elim)
  exact ⟨_, rfl, _, _, _, [], _, [], hW', trodAll_mk1 (shut_bool Try.underlying4 _), (trodAll_cons_mk (Below.trod laidOut (by kernel_rfl) (of_decide_eq_true (by kernel_rfl)) k0 bel lt0) (trodAll_cons_mk (Below.trod laidOut (by kernel_rfl) (of_decide_eq_true (by kernel_rfl)) k1 bel lt1) trodAll_mk0)), rfl, bel.frame _, fun h => by cases h⟩

theorem over : Rows.journeyLiesRow.holds Try.pinned (OpenSpec.ofChange Rows.journeyLiesSpec) :=
  OpenClaim.holds_of_wide 4 Try.f4 rfl rfl rfl rfl rfl rfl rfl ⟨rfl, rfl, rfl, rfl, rfl⟩ rfl rfl rfl rfl rfl (by kernel_rfl) Try.func4 (by kernel_rfl)
    (of_decide_eq_true (by kernel_rfl)) (by unfold Func.isWrapper; first | (rw [if_pos (by decide +kernel)]; kernel_rfl) | (rw [if_neg (by decide +kernel)]; exact ⟨rfl, rfl⟩))
    (fun os started H enc _ => lifted os started H enc)

end journeyLies

/-- THE STATEMENT. -/
theorem journeyLies_holds : Rows.JourneyLiesSaid := journeyLies.over
#print axioms journeyLies_holds
end Go.Proofs.Ythgkifkcckandaa

