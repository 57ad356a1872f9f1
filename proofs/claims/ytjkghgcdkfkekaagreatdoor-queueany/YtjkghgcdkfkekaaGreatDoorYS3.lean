import Derived.Test.YtjkghgcdkfkekaaGreatDoorYS1
import Derived.Test.YtjkghgcdkfkekaaGreatDoorQXF
/- Opening a log and a queue on whatever stands on a disk. -/
namespace Go.Proofs.YtjkghgcdkfkekaaGreatDoor
open Go.RowKit

set_option maxHeartbeats 1000000 in
set_option maxRecDepth 20000 in
/-- A head with too great an epoch holds: no log. -/
theorem open_big (w : World) (R : Nat → Nat) (p b : Nat) (d : Dk) (hT : TabR w R) (hk : Dsk w R p b d.many) (hD : DAt w R b d) (hup : d.down = false) (h4 : 4 ≤ d.many) (hm : d.many ≤ 1048576)
    (G0 h0 a0 : Nat) (hho : hold d.look = (G0, h0, a0)) (hG : 140737488355328 < G0) :
    Calls Tryz.prog 10 #[.pointer (some ⟨p, 0, none⟩)] w fun e w' => e = .returned (.tuple #[.pointer none, .slice none 0 0, errV 90]) ∧ Fr (fun _ => False) w w' := by
  have SE := hide (sectors_any w R p b d.many hk)
  have MA := mayh_any w (d.many : Int)
  rw [mayB_many _ h4 hm] at MA
  have HO := holding_any w hT.1 R p b d hk hD hup (by omega)
  simp only [hho] at HO
  have hgI : (140737488355328 : Int) < (G0 : Int) := by omega
  have HM := hide MA
  have HHO := hide HO
  clear hT hk hD hup h4 hm hho MA HO hG
  go_enter Tryz.func10, Tryz.ntmps10
  go_wp2_with fail
  refine (unhide SE).mono ?_
  rintro e w1 ⟨rfl, rfl⟩
  clear SE
  go_wp2_with fail
  refine (unhide HM).mono ?_
  rintro e w1 ⟨rfl, rfl⟩
  clear HM
  go_wp2_with fail
  refine (unhide HHO).mono ?_
  rintro e w2 ⟨rfl, hF2⟩
  have HF2 := hide hF2
  clear HHO hF2
  go_wp2
  go_ret3
  exact ⟨rfl, (unhide HF2).alloc _⟩

/-- What opening a log leaves, with power, whatever stands there. -/
def WAny (w : World) (R : Nat → Nat) (hp b p n B : Nat) (e : Ending) (w' : World) : Prop :=
  (e = .returned (.tuple #[.pointer none, .slice none 0 0, errV 90]) ∧ Hid (Fr (fun _ => False) w w')) ∨
  ∃ lg ro rc l', e = .returned (.tuple #[.pointer (some ⟨lg, 0, none⟩), .slice ro (List.length l') rc, .nilIface]) ∧ Hid (∃ R' d' G' h' a', UpR w R R' ∧ Fr (fun k => R k ≠ 0) w w' ∧ LS w' R' hp b p lg n d' G' h' a' l' l'.length 1 ∧ RecsP (fun k => w.heap.size ≤ k ∧ R' k = 0) w' ro rc l' ∧ d'.armed = false ∧ d'.pot ≤ B + 180 * hlf n + 6 ∧ G' ≤ 140737488355328 + 1 + hlf n)

theorem wopen_free {w : World} {R : Nat → Nat} {hp b p n B : Nat} {d : Dk} (D : Dn w R hp b n d) (hk : Dsk w R p b n) (ha : d.armed = false) (up : d.down = false) (hw0 : d.wait = []) (h4 : 4 ≤ n) (hm : n ≤ 1048576) (hpot : d.pot ≤ B) (hB : B + 180 * hlf n + 600000 < 576460752303423488) :
    Calls Tryz.prog 10 #[.pointer (some ⟨p, 0, none⟩)] w (WAny w R hp b p n B) := by
  obtain ⟨⟨G0, h0, a0⟩, hho⟩ : ∃ x, hold d.look = x := ⟨_, rfl⟩
  by_cases hG : G0 ≤ 140737488355328
  · have hbd := hlf_bd n h4 hm
    refine (D.open hk up h4 hm (by omega) (by rw [hw0]; simp; omega) hho hG).mono ?_
    rintro e w' ⟨r, R', G', l', g1, g2, q1, q2, hr, u1, f1, D1, fn, e1, e2⟩
    have hr0 : r.2 = false := by rw [hr]; exact Dk.run_free _ d ha
    obtain ⟨lg, ro, rc, i1, i2, i3, i4⟩ := e2 hr0
    have ff := Dk.run_flags (anewActs (2 + (1 - h0) * hlf n) G' l' (1 - a0) (hsec G' (1 - h0))) d
    have fp := Dk.run_pot (anewActs (2 + (1 - h0) * hlf n) G' l' (1 - a0) (hsec G' (1 - h0))) d
    have hn := nputs_hlf l' (hlf n) i2.fitn
    rw [← hr] at ff fp
    rw [anewActs_length] at fp
    exact .inr ⟨lg, ro, rc, l', i1, hide ⟨R', r.1, G', _, _, u1, f1, i2, i4, ff.2.1.trans ha, by omega, by omega⟩⟩
  · have hmn := D.many
    subst hmn
    refine (open_big w R p b d D.tab hk D.dk up h4 hm G0 h0 a0 hho (by omega)).mono ?_
    rintro e w' ⟨he, hF⟩
    exact .inl ⟨he, hide hF⟩

/-- What opening a queue leaves. -/
def QAny (w0 : World) (hp b n lim B : Nat) (e : Ending) (w' : World) : Prop :=
  (e = .returned (.tuple #[.pointer none, errV 100]) ∧ Hid (Fr (fun _ => False) w0 w')) ∨
  ∃ qb q, e = .returned (.tuple #[.pointer (some ⟨qb, 0, none⟩), .nilIface]) ∧ Hid (QW w0 w' hp b qb n lim q false B (140737488355328 + 1 + hlf n) 1 (fun _ _ => True))

set_option maxHeartbeats 1000000 in
set_option maxRecDepth 20000 in
theorem qopen_free {w0 w : World} {R : Nat → Nat} {hp b p n lim B : Nat} {d : Dk} (D : Dn w R hp b n d) (hk : Dsk w R p b n) (hl : Lim lim n) (ha : d.armed = false) (up : d.down = false) (hw0 : d.wait = []) (hpot : d.pot ≤ B) (hB : B + 180 * hlf n + 600000 < 576460752303423488) (hF0 : Fr (fun _ => False) w0 w) (h7 : ∀ k, k < w0.heap.size → R k = 0) :
    Calls Tryz.prog 26 #[.pointer (some ⟨p, 0, none⟩), .int .i64 (lim : Int)] w (QAny w0 hp b n lim (B + 180 * hlf n + 6)) := by
  have HO := wopen_free D hk ha up hw0 hl.four hl.max hpot hB
  have SE := sectors_any w R p b n hk
  have QS := qsec_any w (lim : Int)
  have hmay : mayQ (lim : Int) = true := by have h1 := hl.one; have h2 := hl.le; simp [mayQ]; omega
  rw [qsecF, hmay, if_pos rfl, Int.toNat_natCast] at QS
  have hsec := hl.sec
  have hmax := hl.max
  have s1 : ¬ ((2 : Int) + 2 * (qH lim : Int) = 0) := by omega
  have s2 : ¬ ((n : Int) < 2 + 2 * (qH lim : Int)) := by omega
  have s3 : ¬ ((1048576 : Int) < (n : Int)) := by omega
  obtain ⟨sc, hsc⟩ : ∃ x : Int, x = 2 + 2 * (qH lim : Int) := ⟨_, rfl⟩
  rw [← hsc] at QS s1 s2
  have s1d : (sc == 0) = false := by simpa using s1
  have s2d : decide ((n : Int) < sc) = false := decide_eq_false s2
  have s3d : decide (1048576 < n) = false := by simp; omega
  have HS := hide (And.intro SE QS)
  have HW := hide HO
  have HH := hide (And.intro hl (And.intro hF0 (And.intro h7 D.tab.1.pos)))
  have hlI : (lim : Int) ≤ 4096 := by have := hl.le; omega
  clear SE QS HO hsec hmax hsc hmay hk hl D hF0 h7 ha up hw0 hpot hB
  go_enter Tryz.func26, Tryz.ntmps26
  go_wp2_with fail
  refine (unhide HS).2.mono ?_
  rintro e w1 ⟨rfl, rfl⟩
  go_wp2_with fail
  refine (unhide HS).1.mono ?_
  rintro e w1 ⟨rfl, rfl⟩
  go_wp2_with fail
  refine (unhide HS).1.mono ?_
  rintro e w1 ⟨rfl, rfl⟩
  go_wp2_with fail
  refine (unhide HW).mono ?_
  rintro e w2 (⟨rfl, hF2⟩ | ⟨lg, ro, rc, l', rfl, HL⟩)
  · have I1 := hide (is_sameK w2 90)
    clear HW HS
    go_wp2_with fail
    refine (unhide I1).mono ?_
    rintro e w3 ⟨rfl, rfl⟩
    go_wp2
    go_ret2
    exact .inl ⟨rfl, hide ((unhide HH).2.1.trans (unhide hF2) (fun _ _ t => t))⟩
  · have I1 := hide (is_nilK w2 90)
    have RO : Hid (Calls Tryz.prog 59 #[.slice ro l'.length rc] w2 (RowPost w2 l')) := by
      obtain ⟨R', d', G', h', a', u1, f1, L, hrec, hrest⟩ := unhide HL
      exact hide (rowOf_any w2 _ ro rc l' hrec)
    have hln : (l'.length : Int) ≤ 140737488355328 := by
      obtain ⟨R', d', G', h', a', u1, f1, L, hrec, hrest⟩ := unhide HL
      have := hrec.small
      omega
    have HFR : Hid (Fr (fun _ => False) w0 w2) := by
      obtain ⟨R', d', G', h', a', u1, f1, L, hrec, hrest⟩ := unhide HL
      exact hide ((unhide HH).2.1.trans f1 (fun k hk t => t ((unhide HH).2.2.1 k hk)))
    clear HW HS
    go_wp2_with fail
    refine (unhide I1).mono ?_
    rintro e w2 ⟨rfl, rfl⟩
    clear I1
    go_wp2_with fail
    refine (unhide RO).mono ?_
    rintro e w3 ⟨hF3, hm⟩
    have HF3 := hide hF3
    clear RO hF3
    cases hq : qOf l' with
    | none =>
      rw [hq] at hm
      have hm : e = .returned (.tuple #[.agg #[.int .i64 0, .slice none 0 0], .bool false]) := hm
      subst hm
      clear hq
      go_wp2
      go_ret2
      exact .inl ⟨rfl, hide (((unhide HFR).trans (unhide HF3) (fun _ _ t => t)).alloc _)⟩
    | some q =>
      rw [hq] at hm
      obtain ⟨io, cap, g, off, rfl, hI⟩ := hm
      have HZ := hide hI
      have HQ := hide hq
      have hq4 := (qOf_ok hq).many
      have hqI : (q.items.length : Int) ≤ 4096 := by omega
      clear hq hI
      by_cases hlim : lim < q.items.length
      · have hlen : decide (lim < q.items.length) = true := by simp; omega
        have hlenI : decide ((q.items.length : Int) > (lim : Int)) = true := by simp; omega
        clear hlim hq4
        go_wp2
        go_ret2
        exact .inl ⟨rfl, hide (((unhide HFR).trans (unhide HF3) (fun _ _ t => t)).alloc _)⟩
      · have hlen : decide (lim < q.items.length) = false := by simp; omega
        have hlenI : decide ((q.items.length : Int) > (lim : Int)) = false := by simp; omega
        have HLM : Hid (q.items.length ≤ lim) := hide (by omega)
        clear hlim hq4
        go_wp2
        go_ret2
        obtain ⟨R', d', G', h', a', u1, f1, L, hrec, b1, b2, b3⟩ := unhide HL
        obtain ⟨hl, hF0, h7, h4⟩ := unhide HH
        have hq := unhide HQ
        have hI := unhide HZ
        have hF3 := unhide HF3
        have hok := qOf_ok hq
        have hF5 : Fr (fun _ => False) w2 ((w3.alloc (.cells #[.int .i64 (q.acked : Int), .slice io q.items.length cap] 118)).alloc (.cells (qbox q.acked io q.items.length cap lg false lim) 120)) := (hF3.alloc _).alloc _
        have hbq := Bx.new (w3.alloc (.cells #[.int .i64 (q.acked : Int), .slice io q.items.length cap] 118)) (qbox q.acked io q.items.length cap lg false lim) 120
        simp only [heap_alloc] at hbq
        have hz := L.dn.dk.zero
        have hsz := hF3.size
        have hs0 := (unhide HFR).size
        have hI5 := (hI.mono (F' := fun k => w2.heap.size ≤ k ∧ k < w3.heap.size) (fun k hk t => ⟨t, hk⟩)).keep (((Fr.refl (fun _ => False) w3).alloc (.cells #[.int .i64 (q.acked : Int), .slice io q.items.length cap] 118)).alloc (.cells (qbox q.acked io q.items.length cap lg false lim) 120))
        refine .inr ⟨w3.heap.size + 1, q, rfl, hide ⟨R', fun k => w2.heap.size ≤ k ∧ k < w3.heap.size + 2, p, lg, d', G', h', a', l', l'.length, 1, b1, b2, b3, Nat.le_refl _, ⟨L.keep hF5, ?_, hq, ⟨hok.last, unhide HLM, hok.it⟩, Nat.le_refl _⟩, fun h => absurd h (by decide), (unhide HFR).trans hF5 (fun _ _ t => t), fun k hk => ⟨?_, fun t => by omega⟩, trivial⟩⟩
        · exact ⟨⟨io, cap, g, off, hbq, hI5.mono (fun k _ t => ⟨⟨t.1, by omega⟩, by omega⟩)⟩, ⟨by omega, by omega⟩, fun k hk => ⟨by simp; omega, hz k hk.1, by have := f1.size; omega⟩⟩
        · rw [u1 k (Nat.lt_of_lt_of_le hk hF0.size)]; exact h7 k hk

end Go.Proofs.YtjkghgcdkfkekaaGreatDoor

