/- The walk of HashPieces. -/
import Derived.Test.YtchdjfhenjbcnaaDoorK3
namespace Go.Proofs.YtchdjfhenjbcnaaDoor
open Go.RowKit

/-- Numbers that can be read. -/
def IAt (w : World) (ao : Option Addr) (zs : List Int) : Prop := 0 < zs.length → ∃ b off, ao = some ⟨b, off, none⟩ ∧ ∀ j (hj : j < zs.length), w.cell? ⟨b, off + j, none⟩ = some (.int .i64 zs[j])

theorem IAt.later {w w' : World} {ao : Option Addr} {zs : List Int} (h : IAt w ao zs) (hF : Fr (fun _ => False) w w') : IAt w' ao zs := fun h0 => by
  obtain ⟨b, off, e, hc⟩ := h h0
  exact ⟨b, off, e, fun j hj => (hF.cell (a := ⟨b, off + j, none⟩) (World.block_lt_of_cell? _ _ (hc j hj)) (fun t => t)).trans (hc j hj)⟩

theorem and127 (z : Int) : ∃ k : Nat, k < 128 ∧ bits .and .i64 z 127 = (k : Int) := by
  refine ⟨(BitVec.ofInt 64 z &&& BitVec.ofInt 64 127).toNat, ?_, ?_⟩
  · rw [BitVec.toNat_and]
    exact Nat.lt_of_le_of_lt Nat.and_le_right (by decide)
  · have h : (BitVec.ofInt 64 z &&& BitVec.ofInt 64 127).toNat < 128 := by
      rw [BitVec.toNat_and]
      exact Nat.lt_of_le_of_lt Nat.and_le_right (by decide)
    show IntKind.i64.wrap ((BitVec.ofInt 64 z &&& BitVec.ofInt 64 127).toNat : Int) = _
    rw [IntKind.wrap_i64]
    omega

theorem digest_length (bs : List UInt8) : (digest bs).length = 32 := by rw [digest, wbytes_length]

/-- A part of bytes that can be read. -/
theorem BAt.part {w : World} {b off cap : Nat} {bs : List UInt8} (h : BAt w (some ⟨b, off, none⟩) cap bs) (i n c : Nat) (hi : i + n ≤ bs.length) : BAt w (some ⟨b, off + i, none⟩) c ((bs.drop i).take n) := by
  have hl : ((bs.drop i).take n).length = n := by rw [List.length_take, List.length_drop]; omega
  refine ⟨fun e => (by cases e), fun h0 => ?_, by have := h.2.2; omega⟩
  obtain ⟨b0, off0, e0, hc⟩ := h.2.1 (by omega)
  injection e0 with e0
  injection e0 with e0 e1
  subst e0 e1
  refine ⟨b, off + i, rfl, fun j hj => ?_⟩
  have := hc (i + j) (by omega)
  rw [← Nat.add_assoc] at this
  rw [this, List.getElem_take, List.getElem_drop]

theorem BAt.tail {w : World} {b off cap : Nat} {bs : List UInt8} (h : BAt w (some ⟨b, off, none⟩) cap bs) (i c : Nat) (hi : i ≤ bs.length) : BAt w (some ⟨b, off + i, none⟩) c (bs.drop i) := by
  have := h.part i (bs.length - i) c (by omega)
  rwa [List.take_of_length_le (by rw [List.length_drop]; omega)] at this

theorem take_step (bs : List UInt8) (i n : Nat) : bs.take i ++ (bs.drop i).take n = bs.take (i + n) := (List.take_add).symm

set_option maxHeartbeats 4000000 in
set_option maxRecDepth 100000 in
theorem pieces_walk (w : World) (hT : TabP w) (ao : Option Addr) (cap : Nat) (bs : List UInt8) (hB : BAt w ao cap bs) (hcap : bs.length ≤ cap) (so : Option Addr) (sc : Nat) (zs : List Int) (hZ : IAt w so zs) (hzl : zs.length ≤ 1152921504606846976) :
    Calls Tryd.prog 5 #[.slice ao bs.length cap, .slice so zs.length sc] w fun e w' => e = .returned (.bool true) ∧ Fr (fun _ => False) w w' := by
  have HT := hide hT
  have HB := hide hB
  have HZ := hide hZ
  have hsm := hB.2.2
  clear hT hB hZ
  go_enter Tryd.func5, Tryd.ntmps5
  go_wp2_with fail
  refine (awake_any w (unhide HT)).mono ?_
  rintro e w1 ⟨rfl, hF1⟩
  have HF1 := hide hF1
  clear hF1
  go_wp2_with fail
  refine (new_any w1 ((unhide HT).later (unhide HF1))).mono ?_
  rintro e w2 ⟨p, rfl, h1, h2, h3⟩
  have H2 := hide (And.intro h1 (And.intro ((unhide HF1).trans h2 (fun _ _ t => t)) (Nat.le_trans (unhide HF1).size h3)))
  clear h1 h2 h3 HF1
  go_wp2
  go_loopw [7, 8, 9, 10] (fun av iv _ _ wr => ∃ i at' : Nat, i ≤ zs.length ∧ at' ≤ bs.length ∧ iv = .int .i64 i ∧ av = .int .i64 at' ∧ Hid (HAt wr p (bs.take at') ∧ Fr (fun _ => False) w wr)) (fun _ iv _ _ _ => zs.length - (intOf iv).toNat)
  case atStart => exact ⟨0, 0, Nat.zero_le _, Nat.zero_le _, rfl, rfl, (unhide H2).1, (unhide H2).2.1⟩
  case round =>
    obtain ⟨i, at', hi, hat, rfl, rfl, HS⟩ := hrel
    by_cases hlt : i < zs.length ∧ at' < bs.length
    · obtain ⟨hiz, hab⟩ := hlt
      obtain ⟨sb, soff, rfl, hzc⟩ := unhide HZ (by omega)
      obtain ⟨b, off, rfl, _⟩ := (unhide HB).2.1 (by omega)
      have cz := ((unhide HS).2.cell (a := ⟨sb, soff + i, none⟩) (World.block_lt_of_cell? _ _ (hzc i hiz)) (fun t => t)).trans (hzc i hiz)
      clear hzc
      obtain ⟨k, hk, hand⟩ := and127 zs[i]
      obtain ⟨z, cz, hand⟩ : ∃ z, wr.cell? ⟨sb, soff + i, none⟩ = some (.int .i64 z) ∧ bits .and .i64 z 127 = (k : Int) := ⟨_, cz, hand⟩
      obtain ⟨m, hm⟩ : ∃ m, m + at' = bs.length := ⟨bs.length - at', by omega⟩
      have hmi : (bs.length : Int) - (at' : Int) = (m : Int) := by omega
      have hne : ¬ cap = at' := by omega
      have HMM := hide hm
      have hml : m + at' ≤ bs.length := by omega
      clear hm
      by_cases hmn : k ≤ m
      · have hmn' : (k : Int) ≤ (m : Int) := by omega
        have hn : at' + k ≤ bs.length := by omega
        have hpl : ((bs.drop at').take k).length = k := by rw [List.length_take, List.length_drop]; omega
        have HPL := hide hpl
        clear hpl
        go_wp2_with fail
        have hw1 := write_any wr ((unhide HT).later (unhide HS).2) p (bs.take at') (unhide HS).1 (by have := (unhide HT).gt; have := (unhide H2).2.2; omega) (some ⟨b, off + at', none⟩) (cap - at') ((bs.drop at').take k) (((unhide HB).later (unhide HS).2).part at' k (cap - at') hn) (by rw [unhide HPL]; omega) (sep_row ((unhide HB).part at' k (cap - at') hn) rfl (unhide H2).2.2) (by rw [unhide HPL, List.length_take]; omega)
        rw [unhide HPL, take_step] at hw1
        refine hw1.mono ?_
        rintro e w3 ⟨rfl, k1, k2⟩
        have hF3 : Fr (fun _ => False) w w3 := (unhide HS).2.trans k2 (fun i hi t => by have := (unhide H2).2.2; omega)
        have H3 := hide (And.intro k1 hF3)
        clear k1 k2 hF3 hw1
        go_wp2_with fail
        refine (hsum_any w3 ((unhide HT).later (unhide H3).2) p (bs.take (at' + k)) (unhide H3).1 (by rw [List.length_take]; omega)).mono ?_
        rintro e w4 ⟨v, rfl, g4, m1, m2, m3⟩
        obtain ⟨xo, xc, rfl, _⟩ := m1.shape
        rw [digest_length] at m1 ⊢
        have H4 := hide (And.intro ((unhide H3).1.later m2) (And.intro ((unhide H3).2.trans m2 (fun _ _ t => t)) (m1.bat (by rw [digest_length]; omega)).2))
        clear m1 m2 m3 H3
        by_cases hev : i % 2 = 0
        · have he1 : (i : Int) % 2 = 0 := by omega
          have he2 : (i : Int).tmod 2 = 0 := by rw [Int.tmod_eq_emod_of_nonneg (by omega)]; exact he1
          have hcs : ∀ wx, Fr (fun _ => False) w4 wx → (convert 22 9 (.slice xo 32 xc)).run Tryd.prog wx = .ok (.string ⟨(digest (bs.take (at' + k))).toArray⟩) wx := fun wx hx => by
            have := conv_bytes ((unhide H4).2.2.later hx)
            rw [digest_length] at this
            exact this
          have hla : (bs.take (at' + k)).length = at' + k := by rw [List.length_take]; omega
          have hbt := ((unhide HB).later ((unhide H4).2.1.drew)).part 0 (at' + k) cap (by omega)
          rw [List.drop_zero] at hbt
          have HE := hide (sum_any w4.drew ((unhide HT).later ((unhide H4).2.1.drew)) (some ⟨b, off, none⟩) cap (bs.take (at' + k)) hbt (by rw [hla]; omega))
          rw [hla] at HE
          clear hbt hla
          obtain ⟨D, hD⟩ : ∃ D, D = digest (bs.take (at' + k)) := ⟨_, rfl⟩
          have hDl : D.length = 32 := by rw [hD]; exact digest_length _
          rw [← hD] at hcs HE
          have H5 := hide (And.intro (unhide H4).1 (And.intro (unhide H4).2.1 (And.intro hDl (unhide H4).2.2)))
          rw [← hD] at H5
          clear hD hDl H4
          go_wp2
          refine p13_even w4 i (at' + k) bs.length cap b off xo xc D he2 hn hcap hcs (unhide H5).2.2.1 (unhide HE) _ _ _ _ _ _ _ _ _ _ _ _ _ _ _ _ _ _ _ _ _ _ _ _ _ _ _ _ _ _ _ _ _ _ _ _ _ _ _ _ _ _ _ _ _ _ _ _ _ _ _ _ _ _ _ _ _ _ _ _ _ _ _ _ _ _ _ _ _ _ _ _ _ _ _ _ _ _ _ _ _ _ _ _ _ _ _ _ _ (fun _ _ _ _ _ h => h) ?_
          intro w6 ao6 cap6 hF6
          have H6 := hide (And.intro ((unhide H5).1.later hF6) ((unhide H5).2.1.trans hF6 (fun _ _ t => t)))
          clear hF6 hcs HE
          go_wp2
          exact ⟨⟨i + 1, at' + k, by omega, by omega, by go_num, by go_num, unhide H6⟩, by simp [intOf]; omega⟩
        · have he1 : (i : Int) % 2 = 1 := by omega
          have he2 : (i : Int).tmod 2 = 1 := by rw [Int.tmod_eq_emod_of_nonneg (by omega)]; exact he1
          go_wp2
          refine p13_odd w4 i (at' + k) bs.length cap b off xo xc he2 _ _ _ _ _ _ _ _ _ _ _ _ _ _ _ _ _ _ _ _ _ _ _ _ _ _ _ _ _ _ _ _ _ _ _ _ _ _ _ _ _ _ _ _ _ _ _ _ _ _ _ _ _ _ _ _ _ _ _ _ _ _ _ _ _ _ _ _ _ _ _ _ _ _ _ _ _ _ _ _ _ _ _ _ _ _ _ _ _ (fun _ _ _ _ _ h => h) ?_
          intro w6 hF6
          have H6 := hide (And.intro ((unhide H4).1.later hF6) ((unhide H4).2.1.trans hF6 (fun _ _ t => t)))
          clear hF6
          go_wp2
          exact ⟨⟨i + 1, at' + k, by omega, by omega, by go_num, by go_num, unhide H6⟩, by simp [intOf]; omega⟩
      · have hmn' : ¬ (k : Int) ≤ (m : Int) := by omega
        have hn : at' + m ≤ bs.length := by omega
        have hpl : ((bs.drop at').take m).length = m := by rw [List.length_take, List.length_drop]; omega
        have HPL := hide hpl
        clear hpl
        go_wp2_with fail
        have hw1 := write_any wr ((unhide HT).later (unhide HS).2) p (bs.take at') (unhide HS).1 (by have := (unhide HT).gt; have := (unhide H2).2.2; omega) (some ⟨b, off + at', none⟩) (cap - at') ((bs.drop at').take m) (((unhide HB).later (unhide HS).2).part at' m (cap - at') hn) (by rw [unhide HPL]; omega) (sep_row ((unhide HB).part at' m (cap - at') hn) rfl (unhide H2).2.2) (by rw [unhide HPL, List.length_take]; omega)
        rw [unhide HPL, take_step] at hw1
        refine hw1.mono ?_
        rintro e w3 ⟨rfl, k1, k2⟩
        have hF3 : Fr (fun _ => False) w w3 := (unhide HS).2.trans k2 (fun i hi t => by have := (unhide H2).2.2; omega)
        have H3 := hide (And.intro k1 hF3)
        clear k1 k2 hF3 hw1
        go_wp2_with fail
        refine (hsum_any w3 ((unhide HT).later (unhide H3).2) p (bs.take (at' + m)) (unhide H3).1 (by rw [List.length_take]; omega)).mono ?_
        rintro e w4 ⟨v, rfl, g4, m1, m2, m3⟩
        obtain ⟨xo, xc, rfl, _⟩ := m1.shape
        rw [digest_length] at m1 ⊢
        have H4 := hide (And.intro ((unhide H3).1.later m2) (And.intro ((unhide H3).2.trans m2 (fun _ _ t => t)) (m1.bat (by rw [digest_length]; omega)).2))
        clear m1 m2 m3 H3
        by_cases hev : i % 2 = 0
        · have he1 : (i : Int) % 2 = 0 := by omega
          have he2 : (i : Int).tmod 2 = 0 := by rw [Int.tmod_eq_emod_of_nonneg (by omega)]; exact he1
          have hcs : ∀ wx, Fr (fun _ => False) w4 wx → (convert 22 9 (.slice xo 32 xc)).run Tryd.prog wx = .ok (.string ⟨(digest (bs.take (at' + m))).toArray⟩) wx := fun wx hx => by
            have := conv_bytes ((unhide H4).2.2.later hx)
            rw [digest_length] at this
            exact this
          have hla : (bs.take (at' + m)).length = at' + m := by rw [List.length_take]; omega
          have hbt := ((unhide HB).later ((unhide H4).2.1.drew)).part 0 (at' + m) cap (by omega)
          rw [List.drop_zero] at hbt
          have HE := hide (sum_any w4.drew ((unhide HT).later ((unhide H4).2.1.drew)) (some ⟨b, off, none⟩) cap (bs.take (at' + m)) hbt (by rw [hla]; omega))
          rw [hla] at HE
          clear hbt hla
          obtain ⟨D, hD⟩ : ∃ D, D = digest (bs.take (at' + m)) := ⟨_, rfl⟩
          have hDl : D.length = 32 := by rw [hD]; exact digest_length _
          rw [← hD] at hcs HE
          have H5 := hide (And.intro (unhide H4).1 (And.intro (unhide H4).2.1 (And.intro hDl (unhide H4).2.2)))
          rw [← hD] at H5
          clear hD hDl H4
          go_wp2
          refine p13_even w4 i (at' + m) bs.length cap b off xo xc D he2 hn hcap hcs (unhide H5).2.2.1 (unhide HE) _ _ _ _ _ _ _ _ _ _ _ _ _ _ _ _ _ _ _ _ _ _ _ _ _ _ _ _ _ _ _ _ _ _ _ _ _ _ _ _ _ _ _ _ _ _ _ _ _ _ _ _ _ _ _ _ _ _ _ _ _ _ _ _ _ _ _ _ _ _ _ _ _ _ _ _ _ _ _ _ _ _ _ _ _ _ _ _ _ (fun _ _ _ _ _ h => h) ?_
          intro w6 ao6 cap6 hF6
          have H6 := hide (And.intro ((unhide H5).1.later hF6) ((unhide H5).2.1.trans hF6 (fun _ _ t => t)))
          clear hF6 hcs HE
          go_wp2
          exact ⟨⟨i + 1, at' + m, by omega, by omega, by go_num, by go_num, unhide H6⟩, by simp [intOf]; omega⟩
        · have he1 : (i : Int) % 2 = 1 := by omega
          have he2 : (i : Int).tmod 2 = 1 := by rw [Int.tmod_eq_emod_of_nonneg (by omega)]; exact he1
          go_wp2
          refine p13_odd w4 i (at' + m) bs.length cap b off xo xc he2 _ _ _ _ _ _ _ _ _ _ _ _ _ _ _ _ _ _ _ _ _ _ _ _ _ _ _ _ _ _ _ _ _ _ _ _ _ _ _ _ _ _ _ _ _ _ _ _ _ _ _ _ _ _ _ _ _ _ _ _ _ _ _ _ _ _ _ _ _ _ _ _ _ _ _ _ _ _ _ _ _ _ _ _ _ _ _ _ _ (fun _ _ _ _ _ h => h) ?_
          intro w6 hF6
          have H6 := hide (And.intro ((unhide H4).1.later hF6) ((unhide H4).2.1.trans hF6 (fun _ _ t => t)))
          clear hF6
          go_wp2
          exact ⟨⟨i + 1, at' + m, by omega, by omega, by go_num, by go_num, unhide H6⟩, by simp [intOf]; omega⟩
    · have htest : ¬ i < zs.length ∨ (i < zs.length ∧ ¬ at' < bs.length) := by omega
      have hdl : (bs.drop at').length = bs.length - at' := List.length_drop
      have HDL := hide hdl
      clear hdl hlt
      by_cases hb0 : 0 < bs.length
      · obtain ⟨b, off, rfl, _⟩ := (unhide HB).2.1 hb0
        by_cases hcn : cap = at'
        · have hat2 : at' = bs.length := by omega
          subst hcn
          subst hat2
          have HAT : Hid (bs.take bs.length = bs) := List.take_length
          rcases htest with htest | ⟨ht1, ht2⟩
          ·
            go_wp2_with fail
            have hw1 := write_any wr ((unhide HT).later (unhide HS).2) p (bs.take bs.length) (unhide HS).1 (by have := (unhide HT).gt; have := (unhide H2).2.2; omega) (some ⟨b, off, none⟩) 0 [] ⟨fun e => (by cases e), fun h => absurd h (by simp), by simp⟩ (by simp) (fun _ _ _ h => absurd h (by simp)) (by rw [List.length_take]; simp; omega)
            rw [List.append_nil, unhide HAT] at hw1
            refine hw1.mono ?_
            rintro e w3 ⟨rfl, k1, k2⟩
            have hF3 : Fr (fun _ => False) w w3 := (unhide HS).2.trans k2 (fun i hi t => by have := (unhide H2).2.2; omega)
            have H3 := hide (And.intro k1 hF3)
            clear k1 k2 hF3
            go_wp2_with fail
            refine (hsum_any w3 ((unhide HT).later (unhide H3).2) p bs (unhide H3).1 (by omega)).mono ?_
            rintro e w4 ⟨v, rfl, g4, m1, m2, m3⟩
            obtain ⟨xo, xc, rfl, _⟩ := m1.shape
            rw [digest_length] at m1 ⊢
            have H4 := hide (And.intro ((unhide H3).1.later m2) (And.intro ((unhide H3).2.trans m2 (fun _ _ t => t)) (m1.bat (by rw [digest_length]; omega)).2))
            clear m1 m2 m3 H3
            have hcs : ∀ wx, Fr (fun _ => False) w4 wx → (convert 22 9 (.slice xo 32 xc)).run Tryd.prog wx = .ok (.string ⟨(digest bs).toArray⟩) wx := fun wx hx => by
              have := conv_bytes ((unhide H4).2.2.later hx)
              rw [digest_length] at this
              exact this
            have HE := hide (sum_any w4.drew ((unhide HT).later ((unhide H4).2.1.drew)) _ _ bs ((unhide HB).later (unhide H4).2.1.drew) hcap)
            have HL := hide (fun wx (hx : Fr (fun _ => False) w4 wx) => len_any wx p bs ((unhide H4).1.later hx))
            go_wp2
            refine p17_any w4 p bs.length _ _ xo xc (digest bs) hcs (digest_length _) (unhide HE) (unhide HL) _ _ _ _ _ _ _ _ _ _ _ _ _ _ _ _ _ _ _ _ _ _ _ _ _ _ _ _ _ _ _ _ _ _ _ _ _ _ _ _ _ _ _ _ _ _ _ _ _ _ _ _ _ _ _ _ _ _ _ _ _ _ _ _ _ _ _ _ _ _ _ _ _ _ _ _ _ _ _ _ _ _ _ _ _ _ _ _ _ _ (fun _ _ _ _ _ h => h) ?_
            intro w6 ao6 cap6 hF6
            have H6 := hide ((unhide H4).2.1.trans hF6 (fun _ _ t => t))
            clear hF6 hcs HE HL
            go_wp2
            go_ret
            exact ⟨rfl, unhide H6⟩
          ·
            go_wp2_with fail
            have hw1 := write_any wr ((unhide HT).later (unhide HS).2) p (bs.take bs.length) (unhide HS).1 (by have := (unhide HT).gt; have := (unhide H2).2.2; omega) (some ⟨b, off, none⟩) 0 [] ⟨fun e => (by cases e), fun h => absurd h (by simp), by simp⟩ (by simp) (fun _ _ _ h => absurd h (by simp)) (by rw [List.length_take]; simp; omega)
            rw [List.append_nil, unhide HAT] at hw1
            refine hw1.mono ?_
            rintro e w3 ⟨rfl, k1, k2⟩
            have hF3 : Fr (fun _ => False) w w3 := (unhide HS).2.trans k2 (fun i hi t => by have := (unhide H2).2.2; omega)
            have H3 := hide (And.intro k1 hF3)
            clear k1 k2 hF3
            go_wp2_with fail
            refine (hsum_any w3 ((unhide HT).later (unhide H3).2) p bs (unhide H3).1 (by omega)).mono ?_
            rintro e w4 ⟨v, rfl, g4, m1, m2, m3⟩
            obtain ⟨xo, xc, rfl, _⟩ := m1.shape
            rw [digest_length] at m1 ⊢
            have H4 := hide (And.intro ((unhide H3).1.later m2) (And.intro ((unhide H3).2.trans m2 (fun _ _ t => t)) (m1.bat (by rw [digest_length]; omega)).2))
            clear m1 m2 m3 H3
            have hcs : ∀ wx, Fr (fun _ => False) w4 wx → (convert 22 9 (.slice xo 32 xc)).run Tryd.prog wx = .ok (.string ⟨(digest bs).toArray⟩) wx := fun wx hx => by
              have := conv_bytes ((unhide H4).2.2.later hx)
              rw [digest_length] at this
              exact this
            have HE := hide (sum_any w4.drew ((unhide HT).later ((unhide H4).2.1.drew)) _ _ bs ((unhide HB).later (unhide H4).2.1.drew) hcap)
            have HL := hide (fun wx (hx : Fr (fun _ => False) w4 wx) => len_any wx p bs ((unhide H4).1.later hx))
            go_wp2
            refine p17_any w4 p bs.length _ _ xo xc (digest bs) hcs (digest_length _) (unhide HE) (unhide HL) _ _ _ _ _ _ _ _ _ _ _ _ _ _ _ _ _ _ _ _ _ _ _ _ _ _ _ _ _ _ _ _ _ _ _ _ _ _ _ _ _ _ _ _ _ _ _ _ _ _ _ _ _ _ _ _ _ _ _ _ _ _ _ _ _ _ _ _ _ _ _ _ _ _ _ _ _ _ _ _ _ _ _ _ _ _ _ _ _ _ (fun _ _ _ _ _ h => h) ?_
            intro w6 ao6 cap6 hF6
            have H6 := hide ((unhide H4).2.1.trans hF6 (fun _ _ t => t))
            clear hF6 hcs HE HL
            go_wp2
            go_ret
            exact ⟨rfl, unhide H6⟩
        · rcases htest with htest | ⟨ht1, ht2⟩
          ·
            go_wp2_with fail
            have hw1 := write_any wr ((unhide HT).later (unhide HS).2) p (bs.take at') (unhide HS).1 (by have := (unhide HT).gt; have := (unhide H2).2.2; omega) (some ⟨b, off + at', none⟩) (cap - at') (bs.drop at') (((unhide HB).later (unhide HS).2).tail at' _ hat) (by rw [unhide HDL]; omega) (sep_row ((unhide HB).tail at' cap hat) rfl (unhide H2).2.2) (by rw [unhide HDL, List.length_take]; omega)
            rw [unhide HDL, List.take_append_drop] at hw1
            refine hw1.mono ?_
            rintro e w3 ⟨rfl, k1, k2⟩
            have hF3 : Fr (fun _ => False) w w3 := (unhide HS).2.trans k2 (fun i hi t => by have := (unhide H2).2.2; omega)
            have H3 := hide (And.intro k1 hF3)
            clear k1 k2 hF3
            go_wp2_with fail
            refine (hsum_any w3 ((unhide HT).later (unhide H3).2) p bs (unhide H3).1 (by omega)).mono ?_
            rintro e w4 ⟨v, rfl, g4, m1, m2, m3⟩
            obtain ⟨xo, xc, rfl, _⟩ := m1.shape
            rw [digest_length] at m1 ⊢
            have H4 := hide (And.intro ((unhide H3).1.later m2) (And.intro ((unhide H3).2.trans m2 (fun _ _ t => t)) (m1.bat (by rw [digest_length]; omega)).2))
            clear m1 m2 m3 H3
            have hcs : ∀ wx, Fr (fun _ => False) w4 wx → (convert 22 9 (.slice xo 32 xc)).run Tryd.prog wx = .ok (.string ⟨(digest bs).toArray⟩) wx := fun wx hx => by
              have := conv_bytes ((unhide H4).2.2.later hx)
              rw [digest_length] at this
              exact this
            have HE := hide (sum_any w4.drew ((unhide HT).later ((unhide H4).2.1.drew)) _ _ bs ((unhide HB).later (unhide H4).2.1.drew) hcap)
            have HL := hide (fun wx (hx : Fr (fun _ => False) w4 wx) => len_any wx p bs ((unhide H4).1.later hx))
            go_wp2
            refine p17_any w4 p bs.length _ _ xo xc (digest bs) hcs (digest_length _) (unhide HE) (unhide HL) _ _ _ _ _ _ _ _ _ _ _ _ _ _ _ _ _ _ _ _ _ _ _ _ _ _ _ _ _ _ _ _ _ _ _ _ _ _ _ _ _ _ _ _ _ _ _ _ _ _ _ _ _ _ _ _ _ _ _ _ _ _ _ _ _ _ _ _ _ _ _ _ _ _ _ _ _ _ _ _ _ _ _ _ _ _ _ _ _ _ (fun _ _ _ _ _ h => h) ?_
            intro w6 ao6 cap6 hF6
            have H6 := hide ((unhide H4).2.1.trans hF6 (fun _ _ t => t))
            clear hF6 hcs HE HL
            go_wp2
            go_ret
            exact ⟨rfl, unhide H6⟩
          ·
            go_wp2_with fail
            have hw1 := write_any wr ((unhide HT).later (unhide HS).2) p (bs.take at') (unhide HS).1 (by have := (unhide HT).gt; have := (unhide H2).2.2; omega) (some ⟨b, off + at', none⟩) (cap - at') (bs.drop at') (((unhide HB).later (unhide HS).2).tail at' _ hat) (by rw [unhide HDL]; omega) (sep_row ((unhide HB).tail at' cap hat) rfl (unhide H2).2.2) (by rw [unhide HDL, List.length_take]; omega)
            rw [unhide HDL, List.take_append_drop] at hw1
            refine hw1.mono ?_
            rintro e w3 ⟨rfl, k1, k2⟩
            have hF3 : Fr (fun _ => False) w w3 := (unhide HS).2.trans k2 (fun i hi t => by have := (unhide H2).2.2; omega)
            have H3 := hide (And.intro k1 hF3)
            clear k1 k2 hF3
            go_wp2_with fail
            refine (hsum_any w3 ((unhide HT).later (unhide H3).2) p bs (unhide H3).1 (by omega)).mono ?_
            rintro e w4 ⟨v, rfl, g4, m1, m2, m3⟩
            obtain ⟨xo, xc, rfl, _⟩ := m1.shape
            rw [digest_length] at m1 ⊢
            have H4 := hide (And.intro ((unhide H3).1.later m2) (And.intro ((unhide H3).2.trans m2 (fun _ _ t => t)) (m1.bat (by rw [digest_length]; omega)).2))
            clear m1 m2 m3 H3
            have hcs : ∀ wx, Fr (fun _ => False) w4 wx → (convert 22 9 (.slice xo 32 xc)).run Tryd.prog wx = .ok (.string ⟨(digest bs).toArray⟩) wx := fun wx hx => by
              have := conv_bytes ((unhide H4).2.2.later hx)
              rw [digest_length] at this
              exact this
            have HE := hide (sum_any w4.drew ((unhide HT).later ((unhide H4).2.1.drew)) _ _ bs ((unhide HB).later (unhide H4).2.1.drew) hcap)
            have HL := hide (fun wx (hx : Fr (fun _ => False) w4 wx) => len_any wx p bs ((unhide H4).1.later hx))
            go_wp2
            refine p17_any w4 p bs.length _ _ xo xc (digest bs) hcs (digest_length _) (unhide HE) (unhide HL) _ _ _ _ _ _ _ _ _ _ _ _ _ _ _ _ _ _ _ _ _ _ _ _ _ _ _ _ _ _ _ _ _ _ _ _ _ _ _ _ _ _ _ _ _ _ _ _ _ _ _ _ _ _ _ _ _ _ _ _ _ _ _ _ _ _ _ _ _ _ _ _ _ _ _ _ _ _ _ _ _ _ _ _ _ _ _ _ _ _ (fun _ _ _ _ _ h => h) ?_
            intro w6 ao6 cap6 hF6
            have H6 := hide ((unhide H4).2.1.trans hF6 (fun _ _ t => t))
            clear hF6 hcs HE HL
            go_wp2
            go_ret
            exact ⟨rfl, unhide H6⟩
      · obtain rfl : bs = [] := List.eq_nil_of_length_eq_zero (by omega)
        obtain rfl : at' = 0 := by simpa using hat
        have HAT : Hid (([] : List UInt8).take 0 = []) := rfl
        cases ao with
        | none =>
          obtain ⟨_, rfl⟩ := (unhide HB).1 rfl
          rcases htest with htest | ⟨ht1, ht2⟩
          ·
            go_wp2_with fail
            have hw1 := write_any wr ((unhide HT).later (unhide HS).2) p ([].take 0) (unhide HS).1 (by have := (unhide HT).gt; have := (unhide H2).2.2; omega) none 0 [] ⟨fun e => ⟨rfl, rfl⟩, fun h => absurd h (by simp), by simp⟩ (by simp) (fun _ _ _ h => absurd h (by simp)) (by simp)
            rw [List.append_nil, unhide HAT] at hw1
            refine hw1.mono ?_
            rintro e w3 ⟨rfl, k1, k2⟩
            have hF3 : Fr (fun _ => False) w w3 := (unhide HS).2.trans k2 (fun i hi t => by have := (unhide H2).2.2; omega)
            have H3 := hide (And.intro k1 hF3)
            clear k1 k2 hF3
            go_wp2_with fail
            refine (hsum_any w3 ((unhide HT).later (unhide H3).2) p [] (unhide H3).1 (by simp)).mono ?_
            rintro e w4 ⟨v, rfl, g4, m1, m2, m3⟩
            obtain ⟨xo, xc, rfl, _⟩ := m1.shape
            rw [digest_length] at m1 ⊢
            have H4 := hide (And.intro ((unhide H3).1.later m2) (And.intro ((unhide H3).2.trans m2 (fun _ _ t => t)) (m1.bat (by rw [digest_length]; omega)).2))
            clear m1 m2 m3 H3
            have hcs : ∀ wx, Fr (fun _ => False) w4 wx → (convert 22 9 (.slice xo 32 xc)).run Tryd.prog wx = .ok (.string ⟨(digest []).toArray⟩) wx := fun wx hx => by
              have := conv_bytes ((unhide H4).2.2.later hx)
              rw [digest_length] at this
              exact this
            have HE := hide (sum_any w4.drew ((unhide HT).later ((unhide H4).2.1.drew)) _ _ [] ((unhide HB).later (unhide H4).2.1.drew) hcap)
            have HL := hide (fun wx (hx : Fr (fun _ => False) w4 wx) => len_any wx p [] ((unhide H4).1.later hx))
            go_wp2
            refine p17_any w4 p 0 _ _ xo xc (digest []) hcs (digest_length _) (unhide HE) (unhide HL) _ _ _ _ _ _ _ _ _ _ _ _ _ _ _ _ _ _ _ _ _ _ _ _ _ _ _ _ _ _ _ _ _ _ _ _ _ _ _ _ _ _ _ _ _ _ _ _ _ _ _ _ _ _ _ _ _ _ _ _ _ _ _ _ _ _ _ _ _ _ _ _ _ _ _ _ _ _ _ _ _ _ _ _ _ _ _ _ _ _ (fun _ _ _ _ _ h => h) ?_
            intro w6 ao6 cap6 hF6
            have H6 := hide ((unhide H4).2.1.trans hF6 (fun _ _ t => t))
            clear hF6 hcs HE HL
            go_wp2
            go_ret
            exact ⟨rfl, unhide H6⟩
          ·
            go_wp2_with fail
            have hw1 := write_any wr ((unhide HT).later (unhide HS).2) p ([].take 0) (unhide HS).1 (by have := (unhide HT).gt; have := (unhide H2).2.2; omega) none 0 [] ⟨fun e => ⟨rfl, rfl⟩, fun h => absurd h (by simp), by simp⟩ (by simp) (fun _ _ _ h => absurd h (by simp)) (by simp)
            rw [List.append_nil, unhide HAT] at hw1
            refine hw1.mono ?_
            rintro e w3 ⟨rfl, k1, k2⟩
            have hF3 : Fr (fun _ => False) w w3 := (unhide HS).2.trans k2 (fun i hi t => by have := (unhide H2).2.2; omega)
            have H3 := hide (And.intro k1 hF3)
            clear k1 k2 hF3
            go_wp2_with fail
            refine (hsum_any w3 ((unhide HT).later (unhide H3).2) p [] (unhide H3).1 (by simp)).mono ?_
            rintro e w4 ⟨v, rfl, g4, m1, m2, m3⟩
            obtain ⟨xo, xc, rfl, _⟩ := m1.shape
            rw [digest_length] at m1 ⊢
            have H4 := hide (And.intro ((unhide H3).1.later m2) (And.intro ((unhide H3).2.trans m2 (fun _ _ t => t)) (m1.bat (by rw [digest_length]; omega)).2))
            clear m1 m2 m3 H3
            have hcs : ∀ wx, Fr (fun _ => False) w4 wx → (convert 22 9 (.slice xo 32 xc)).run Tryd.prog wx = .ok (.string ⟨(digest []).toArray⟩) wx := fun wx hx => by
              have := conv_bytes ((unhide H4).2.2.later hx)
              rw [digest_length] at this
              exact this
            have HE := hide (sum_any w4.drew ((unhide HT).later ((unhide H4).2.1.drew)) _ _ [] ((unhide HB).later (unhide H4).2.1.drew) hcap)
            have HL := hide (fun wx (hx : Fr (fun _ => False) w4 wx) => len_any wx p [] ((unhide H4).1.later hx))
            go_wp2
            refine p17_any w4 p 0 _ _ xo xc (digest []) hcs (digest_length _) (unhide HE) (unhide HL) _ _ _ _ _ _ _ _ _ _ _ _ _ _ _ _ _ _ _ _ _ _ _ _ _ _ _ _ _ _ _ _ _ _ _ _ _ _ _ _ _ _ _ _ _ _ _ _ _ _ _ _ _ _ _ _ _ _ _ _ _ _ _ _ _ _ _ _ _ _ _ _ _ _ _ _ _ _ _ _ _ _ _ _ _ _ _ _ _ _ (fun _ _ _ _ _ h => h) ?_
            intro w6 ao6 cap6 hF6
            have H6 := hide ((unhide H4).2.1.trans hF6 (fun _ _ t => t))
            clear hF6 hcs HE HL
            go_wp2
            go_ret
            exact ⟨rfl, unhide H6⟩
        | some x =>
          rcases htest with htest | ⟨ht1, ht2⟩
          ·
            go_wp2_with fail
            have hw1 := write_any wr ((unhide HT).later (unhide HS).2) p ([].take 0) (unhide HS).1 (by have := (unhide HT).gt; have := (unhide H2).2.2; omega) (some x) cap [] ⟨fun e => (by cases e), fun h => absurd h (by simp), by simp⟩ (by simp) (fun _ _ _ h => absurd h (by simp)) (by simp)
            rw [List.append_nil, unhide HAT] at hw1
            refine hw1.mono ?_
            rintro e w3 ⟨rfl, k1, k2⟩
            have hF3 : Fr (fun _ => False) w w3 := (unhide HS).2.trans k2 (fun i hi t => by have := (unhide H2).2.2; omega)
            have H3 := hide (And.intro k1 hF3)
            clear k1 k2 hF3
            go_wp2_with fail
            refine (hsum_any w3 ((unhide HT).later (unhide H3).2) p [] (unhide H3).1 (by simp)).mono ?_
            rintro e w4 ⟨v, rfl, g4, m1, m2, m3⟩
            obtain ⟨xo, xc, rfl, _⟩ := m1.shape
            rw [digest_length] at m1 ⊢
            have H4 := hide (And.intro ((unhide H3).1.later m2) (And.intro ((unhide H3).2.trans m2 (fun _ _ t => t)) (m1.bat (by rw [digest_length]; omega)).2))
            clear m1 m2 m3 H3
            have hcs : ∀ wx, Fr (fun _ => False) w4 wx → (convert 22 9 (.slice xo 32 xc)).run Tryd.prog wx = .ok (.string ⟨(digest []).toArray⟩) wx := fun wx hx => by
              have := conv_bytes ((unhide H4).2.2.later hx)
              rw [digest_length] at this
              exact this
            have HE := hide (sum_any w4.drew ((unhide HT).later ((unhide H4).2.1.drew)) _ _ [] ((unhide HB).later (unhide H4).2.1.drew) hcap)
            have HL := hide (fun wx (hx : Fr (fun _ => False) w4 wx) => len_any wx p [] ((unhide H4).1.later hx))
            go_wp2
            refine p17_any w4 p 0 _ _ xo xc (digest []) hcs (digest_length _) (unhide HE) (unhide HL) _ _ _ _ _ _ _ _ _ _ _ _ _ _ _ _ _ _ _ _ _ _ _ _ _ _ _ _ _ _ _ _ _ _ _ _ _ _ _ _ _ _ _ _ _ _ _ _ _ _ _ _ _ _ _ _ _ _ _ _ _ _ _ _ _ _ _ _ _ _ _ _ _ _ _ _ _ _ _ _ _ _ _ _ _ _ _ _ _ _ (fun _ _ _ _ _ h => h) ?_
            intro w6 ao6 cap6 hF6
            have H6 := hide ((unhide H4).2.1.trans hF6 (fun _ _ t => t))
            clear hF6 hcs HE HL
            go_wp2
            go_ret
            exact ⟨rfl, unhide H6⟩
          ·
            go_wp2_with fail
            have hw1 := write_any wr ((unhide HT).later (unhide HS).2) p ([].take 0) (unhide HS).1 (by have := (unhide HT).gt; have := (unhide H2).2.2; omega) (some x) cap [] ⟨fun e => (by cases e), fun h => absurd h (by simp), by simp⟩ (by simp) (fun _ _ _ h => absurd h (by simp)) (by simp)
            rw [List.append_nil, unhide HAT] at hw1
            refine hw1.mono ?_
            rintro e w3 ⟨rfl, k1, k2⟩
            have hF3 : Fr (fun _ => False) w w3 := (unhide HS).2.trans k2 (fun i hi t => by have := (unhide H2).2.2; omega)
            have H3 := hide (And.intro k1 hF3)
            clear k1 k2 hF3
            go_wp2_with fail
            refine (hsum_any w3 ((unhide HT).later (unhide H3).2) p [] (unhide H3).1 (by simp)).mono ?_
            rintro e w4 ⟨v, rfl, g4, m1, m2, m3⟩
            obtain ⟨xo, xc, rfl, _⟩ := m1.shape
            rw [digest_length] at m1 ⊢
            have H4 := hide (And.intro ((unhide H3).1.later m2) (And.intro ((unhide H3).2.trans m2 (fun _ _ t => t)) (m1.bat (by rw [digest_length]; omega)).2))
            clear m1 m2 m3 H3
            have hcs : ∀ wx, Fr (fun _ => False) w4 wx → (convert 22 9 (.slice xo 32 xc)).run Tryd.prog wx = .ok (.string ⟨(digest []).toArray⟩) wx := fun wx hx => by
              have := conv_bytes ((unhide H4).2.2.later hx)
              rw [digest_length] at this
              exact this
            have HE := hide (sum_any w4.drew ((unhide HT).later ((unhide H4).2.1.drew)) _ _ [] ((unhide HB).later (unhide H4).2.1.drew) hcap)
            have HL := hide (fun wx (hx : Fr (fun _ => False) w4 wx) => len_any wx p [] ((unhide H4).1.later hx))
            go_wp2
            refine p17_any w4 p 0 _ _ xo xc (digest []) hcs (digest_length _) (unhide HE) (unhide HL) _ _ _ _ _ _ _ _ _ _ _ _ _ _ _ _ _ _ _ _ _ _ _ _ _ _ _ _ _ _ _ _ _ _ _ _ _ _ _ _ _ _ _ _ _ _ _ _ _ _ _ _ _ _ _ _ _ _ _ _ _ _ _ _ _ _ _ _ _ _ _ _ _ _ _ _ _ _ _ _ _ _ _ _ _ _ _ _ _ _ (fun _ _ _ _ _ h => h) ?_
            intro w6 ao6 cap6 hF6
            have H6 := hide ((unhide H4).2.1.trans hF6 (fun _ _ t => t))
            clear hF6 hcs HE HL
            go_wp2
            go_ret
            exact ⟨rfl, unhide H6⟩

end Go.Proofs.YtchdjfhenjbcnaaDoor
