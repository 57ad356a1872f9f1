/- The walk of the law WireBack. -/
import Derived.Test.YtdbmojiplfkniaaC5
import Derived.Test.YtdbmojiplfkniaaD1
namespace Go.Proofs.Ytdbmojiplfkniaa
open Go.RowKit

theorem fold_split {ps : List Pc} {B : List UInt8} (h : fold ps = some B) (n : Nat) : ∃ done rest, fold (ps.take n) = some done ∧ fold (ps.drop n) = some rest ∧ B = done ++ rest := by
  rw [← List.take_append_drop n ps, fold_append] at h
  cases e0 : fold (ps.take n) with
  | none => rw [e0, stepW_none] at h; cases h
  | some a =>
    cases e1 : fold (ps.drop n) with
    | none => rw [e0, e1] at h; cases h
    | some b => rw [e0, e1] at h; simp only [stepW] at h; injection h with h; exact ⟨a, b, rfl, rfl, h.symm⟩

theorem fold_at {ps : List Pc} {B : List UInt8} (h : fold ps = some B) {n : Nat} (hn : n < ps.length) : ∃ done ms rest, fold (ps.take n) = some done ∧ (ps[n]).bytes = some ms ∧ fold (ps.take (n + 1)) = some (done ++ ms) ∧ B = done ++ (ms ++ rest) := by
  obtain ⟨done, _, h1, _, _⟩ := fold_split h n
  obtain ⟨done', rest', k1, _, k3⟩ := fold_split h (n + 1)
  have e := fold_snoc (ps.take n) ps[n]
  rw [← take_next ps n hn, k1, h1] at e
  cases hq : (ps[n]).bytes with
  | none => unfold putW at e; rw [hq] at e; cases e
  | some ms =>
    unfold putW at e
    rw [hq] at e
    simp only [stepW] at e
    injection e with e
    subst e
    exact ⟨done, ms, rest', h1, rfl, k1, by rw [k3, List.append_assoc]⟩

set_option maxHeartbeats 4000000 in
set_option maxRecDepth 100000 in
theorem back_walk (w : World) (lo : Option Addr) (lc : Nat) (ps : List Pc) (hL : LAt w lo ps) (hfits : ∀ q ∈ ps, -9223372036854775808 ≤ q.n ∧ q.x < 18446744073709551616) (hbd : ps.length ≤ 1048576) (ao : Option Addr) (cap : Nat) (bh : List UInt8) (hB : BAt w ao cap bh) (hbb : bh.length ≤ 1048576) :
    Calls Try.prog 5 #[.slice lo ps.length lc, .slice ao bh.length cap] w fun e w' => e = .returned (.bool true) ∧ Fr (fun _ => False) w w' := by
  obtain ⟨i0, hi, hz0, hz1, hz2⟩ := info_parts Try.info5
  have HL := hide hL
  have HB := hide hB
  have HFi := hide hfits
  clear hL hB hfits
  go_enter Try.func5, Try.ntmps5
  go_wp2_with fail
  refine (awake_any _).mono ?_
  rintro e w1 ⟨rfl, hF1⟩
  have HF1 := hide hF1
  clear hF1
  go_wp2_with fail
  refine (newwriter_any _).mono ?_
  rintro e wn ⟨rfl, rfl⟩
  have HN := hide (WOwn.new w1)
  generalize (w1.alloc (.cells #[.slice none 0 0, .bool false] 68)) = wn at HN ⊢
  generalize w1.heap.size = p at HN ⊢
  go_wp2
  go_loopw [7] (fun nv wk => ∃ n : Nat, n ≤ ps.length ∧ nv = .int .i64 n ∧ ∃ g st, Hid (WOwn w1 wk p g st ∧ st = fold (ps.take n))) (fun nv _ => ps.length - (intOf nv).toNat)
  case atStart => exact ⟨0, Nat.zero_le _, rfl, p, some [], unhide HN, rfl⟩
  case round =>
    obtain ⟨n, hn, rfl, g, st, HS⟩ := hrel
    by_cases hlt : n < ps.length
    · obtain ⟨b, off, rfl⟩ : ∃ b off, lo = some ⟨b, off, none⟩ := by
        obtain ⟨b, off, e, _⟩ := (unhide HL).1 (by omega)
        exact ⟨b, off, e⟩
      obtain ⟨q0, q1, q2, q3, q4, q5⟩ := (unhide HL).cells ((unhide HF1).trans (unhide HS).1.1 (fun _ _ t => t)) n hlt
      have hqn := (unhide HL).2.2 ps[n] (List.getElem_mem hlt)
      obtain ⟨q, Hq⟩ : ∃ q, Hid (ps[n] = q) := ⟨ps[n], hide rfl⟩
      rw [unhide Hq] at q0 q1 q2 q3 q4 q5 hqn
      go_wp2_with fail
      refine (lput_any (unhide HS).1.2.2.2 (fun bs h => by have := fold_le _ bs (by rw [← (unhide HS).2]; exact h); rw [List.length_take] at this; have h3 : 65537 * min n ps.length ≤ 65537 * 1048576 := Nat.mul_le_mul_left _ (by omega); omega) q hqn).mono ?_
      rintro e wk2 ⟨rfl, hP⟩
      obtain ⟨g', hW⟩ := (unhide HS).1.next hP
      have HW := hide hW
      clear hP hW q0 q1 q2 q3 q4 q5
      go_wp2
      exact ⟨⟨n + 1, by omega, by go_num, g', _, unhide HW, by rw [take_next ps n hlt, fold_snoc, ← (unhide HS).2, unhide Hq]⟩, by simp [intOf]; omega⟩
    · go_wp2_with fail
      have hst := (unhide HS).2
      rw [List.take_of_length_le (by omega)] at hst
      have hF2 := (unhide HF1).trans (unhide HS).1.1 (fun _ _ t => t)
      cases st with
      | none =>
        refine (bytes_bad (unhide HS).1.2.2.2).mono ?_
        rintro e w2 ⟨rfl, rfl⟩
        have HX := hide hF2
        clear hst hF2 HS HN HF1
        go_wp2
        go_ret
        exact ⟨rfl, unhide HX⟩
      | some B =>
        have hlen : B.length ≤ 100000000000 := by
          have h1 := fold_le _ B hst.symm
          have h3 : 65537 * ps.length ≤ 65537 * 1048576 := Nat.mul_le_mul_left _ (by omega)
          omega
        refine (bytes_ok (unhide HS).1.2.2.2 (by omega)).mono ?_
        rintro e w2 ⟨v, g', rfl, hrow, hF, hg⟩
        obtain ⟨vo, vc, rfl, hv1, hv2, hv3, hv4⟩ := hrow.shape
        have HT := hide hst
        have HX := hide (hF2.trans hF (fun _ _ t => t))
        have HV := hide hrow
        have HV3 := hide (And.intro hv1 hv3)
        clear hst hF2 HS HN HF1 hrow hF hg hv1 hv2 hv3 hv4
        have hsrcB : ∀ w', Fr (fun _ => False) w2 w' → Src Try.prog 1 27 (.slice vo B.length vc) B.length (bytesV B) w' := by
          intro w' hf'
          refine src_slice Try.underlying27 w' vo vc B (fun h0 => ?_)
          have hh := unhide HV3
          refine ⟨g', 0, hh.2 (by omega), fun j hj => ?_⟩
          have hc := (unhide HV).cells j hj
          rw [Nat.zero_add]
          exact (hf'.cell (a := ⟨g', j, none⟩) (World.block_lt_of_cell? _ _ hc) (fun t => t)).trans hc
        have HSB := hide hsrcB
        clear hsrcB HV HV3
        go_wp2_with (at_builtin; refine wpList_append_row _ rfl (.tmp 49) (.tmp 50) 27 27 rfl 5 i0 Try.underlying27 hi hz0 hz1 hz2 (g := w2.heap.size) (bs := []) (cap := 0) rfl ?hrow _ B rfl ?hsrc ?hfit ?next)
        case hrow => exact ⟨⟨_, 0, rfl, Nat.le_refl _, Nat.zero_le _, fun h => absurd h (by omega), fun j hj => absurd hj (by omega)⟩, fun j hj => absurd hj (by simp)⟩
        case hsrc => exact unhide HSB _ ((Fr.refl _ _).alloc _)
        case hfit => simp only [List.length_nil, Nat.zero_add]; omega
        case next =>
          intro ao1 cap1 w3 g3 hr3 hf3 hg3
          have hr3' : Row w3 (.slice ao1 B.length cap1) g3 B := by simpa using hr3
          have hX3 : Fr (fun _ => False) w w3 := (((unhide HX).alloc _).trans hf3 (fun i hi t => by omega))
          have hge3 : w.heap.size ≤ g3 := by
            have h1 := (unhide HX).size
            rcases hg3 with ⟨e, _⟩ | hg3
            · omega
            · have : w2.heap.size + 1 ≤ g3 := by simpa using hg3
              omega
          have HX3 := hide (And.intro hX3 hge3)
          have HR3 := hide hr3'
          clear hr3 hr3' hf3 hg3 hX3 hge3 HSB HX
          go_wp2_with (at_builtin; refine wpList_append_row _ rfl (.tmp 51) (.tmp 52) 27 27 rfl 5 i0 Try.underlying27 hi hz0 hz1 hz2 (ao := ao1) (g := g3) (bs := B) (cap := cap1) rfl (unhide HR3) _ bh rfl ?hsrc ?hfit ?next)
          case hsrc => exact src_slice Try.underlying27 _ ao cap bh ((unhide HB).later (unhide HX3).1).2.1
          case hfit => omega
          case next =>
            intro ao2 cap2 w4 g4 hr4 hf4 hg4
            have hX4 : Fr (fun _ => False) w w4 := (unhide HX3).1.trans hf4 (fun i hi t => by have := (unhide HX3).2; omega)
            have hlen4 : (B ++ bh).length ≤ 140737488355328 := by rw [List.length_append]; omega
            have HC := hide (newreader_own hr4 hlen4)
            have HX4 := hide hX4
            clear hr4 hf4 hg4 hX4 hlen4 HX3 HR3
            go_wp2_with fail
            have hcall := unhide HC ao2 cap2 (by rw [List.length_append])
            rw [List.length_append] at hcall
            refine hcall.mono ?_
            rintro e w5 ⟨rp, rg, rfl, hR, hF, hg1, hg2⟩
            have hR1 : ROwn w w5 rp rg (B ++ bh) ⟨0, 0, 0, 0⟩ := ⟨(unhide HX4).trans hF (fun _ _ t => t), Nat.le_trans (unhide HX4).size hg2, Nat.le_trans (unhide HX4).size hg1, hR⟩
            have HR := hide hR1
            clear hR1 hR hF hg1 hg2 hcall HC HX4
            go_wp2
            go_loopw [11] (fun nv wk => ∃ m : Nat, m ≤ ps.length ∧ nv = .int .i64 m ∧ ∃ (s : RS) (done : List UInt8), Hid (ROwn w wk rp rg (B ++ bh) s ∧ s.c = 0 ∧ s.f = 0 ∧ fold (ps.take m) = some done ∧ s.a = done.length)) (fun nv _ => ps.length - (intOf nv).toNat)
            case atStart => exact ⟨0, Nat.zero_le _, rfl, ⟨0, 0, 0, 0⟩, [], unhide HR, rfl, rfl, rfl, rfl⟩
            case round =>
              obtain ⟨m, hm, rfl, s, done, HS⟩ := hrel
              by_cases hlt2 : m < ps.length
              · obtain ⟨b, off, rfl⟩ : ∃ b off, lo = some ⟨b, off, none⟩ := by
                  obtain ⟨b, off, e, _⟩ := (unhide HL).1 (by omega)
                  exact ⟨b, off, e⟩
                obtain ⟨q0, q1, q2, q3, q4, q5⟩ := (unhide HL).cells (unhide HS).1.1 m hlt2
                have hqn := (unhide HL).2.2 ps[m] (List.getElem_mem hlt2)
                have hqf := unhide HFi ps[m] (List.getElem_mem hlt2)
                obtain ⟨done', ms, rest, k1, k2, k3, k4⟩ := fold_at (unhide HT).symm hlt2
                obtain ⟨q, Hq⟩ : ∃ q, Hid (ps[m] = q) := ⟨ps[m], hide rfl⟩
                rw [unhide Hq] at q0 q1 q2 q3 q4 q5 hqn hqf k2
                have HK := hide (And.intro k1 (And.intro k2 (And.intro k3 (And.intro k4 (And.intro hqn hqf)))))
                clear k1 k2 k3 k4 hqn hqf
                go_wp2_with fail
                obtain ⟨s1, s2, s3, s4, s5⟩ := unhide HS
                obtain ⟨k1, k2, k3, k4, k5, k6⟩ := unhide HK
                have ed : done' = done := by rw [k1] at s4; injection s4
                subst ed
                have hdr : (B ++ bh).drop s.a = ms ++ (rest ++ bh) := by rw [k4, s5]; simp
                refine (taken_any s1.2.2.2 s2 q k2 hdr k6.1 k5 k6.2).mono ?_
                rintro e wk2 ⟨rfl, ⟨l', hS'⟩, hF'⟩
                have HN2 := hide (s1.next hS' hF')
                have HM := hide (And.intro k3 (And.intro s5 s3))
                clear s1 s2 s3 s4 s5 k1 k2 k3 k4 k5 k6 hdr hS' hF' q0 q1 q2 q3 q4 q5 HS HK
                go_wp2
                exact ⟨⟨m + 1, by omega, by go_num, ⟨s.a + ms.length, l', 0, s.f⟩, done' ++ ms, unhide HN2, rfl, (unhide HM).2.2, (unhide HM).1, by rw [List.length_append]; show s.a + ms.length = _; rw [(unhide HM).2.1]⟩, by simp [intOf]; omega⟩
              · obtain ⟨s1, s2, s3, s4, s5⟩ := unhide HS
                rw [List.take_of_length_le (by omega), ← unhide HT] at s4
                injection s4 with s4
                subst s4
                have c1 := s1.2.2.2.c1
                have HR2 := hide (And.intro s1 (And.intro s2 s3))
                have ea : s.a = B.length := s5
                have c1' := c1
                rw [ea] at c1'
                clear s1 s2 s3 s5 HS HR c1
                by_cases hbh : bh.length = 0
                · have e1 : endR s (B ++ bh).length = s := by simp only [endR]; rw [if_neg (by rw [List.length_append]; omega)]
                  have hz : ((bh.length : Int) == 0) = true := beq_iff_eq.2 (by omega)
                  have HEA := hide ea
                  clear ea hbh
                  go_wp2_with fail
                  refine (at_any rp B.length _ c1').mono ?_
                  rintro e w6 ⟨rfl, rfl⟩
                  go_wp2_with fail
                  have hend := end_any (unhide HR2).1.2.2.2
                  rw [e1, (unhide HR2).2.1, (unhide HR2).2.2] at hend
                  refine hend.mono ?_
                  rintro e w7 ⟨rfl, hE, hFE⟩
                  have HF7 := hide ((unhide HR2).1.next hE hFE).1
                  clear hend hE hFE e1 c1'
                  go_wp2
                  go_ret
                  exact ⟨rfl, (unhide HF7).alloc _⟩
                · have e1 : endR s (B ++ bh).length = { s with c := 13, f := B.length } := by simp only [endR]; rw [if_pos ⟨(unhide HR2).2.1, by rw [List.length_append]; omega⟩, ea]
                  have hz : ((bh.length : Int) == 0) = false := beq_eq_false_iff_ne.2 (by omega)
                  have hpos : 0 < bh.length := by omega
                  have HEA := hide ea
                  clear ea hbh
                  go_wp2_with fail
                  refine (at_any rp B.length _ c1').mono ?_
                  rintro e w6 ⟨rfl, rfl⟩
                  go_wp2_with fail
                  have hend := end_any (unhide HR2).1.2.2.2
                  rw [e1] at hend
                  refine hend.mono ?_
                  rintro e w7 ⟨rfl, hE, hFE⟩
                  have HF7 := hide ((unhide HR2).1.next hE hFE).1
                  clear hend hE hFE e1 c1'
                  go_wp2
                  go_ret
                  exact ⟨rfl, (unhide HF7).alloc _⟩

end Go.Proofs.Ytdbmojiplfkniaa
