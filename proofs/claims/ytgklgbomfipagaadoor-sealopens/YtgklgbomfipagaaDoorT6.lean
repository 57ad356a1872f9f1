/- The walk of SealOpens. -/
import Derived.Test.YtgklgbomfipagaaDoorV3
import Derived.Test.YtgklgbomfipagaaDoorT5
namespace Go.Proofs.YtgklgbomfipagaaDoor
open Go.RowKit

/-- What Seal answers, and what Open does, for whatever is handed in. -/
def sealA (s b : List UInt8) : List UInt8 × Int := if 200 < s.length then ([], 2) else (sealed s b, 0)
def openA (s r : List UInt8) : List UInt8 × Int := if 200 < s.length then ([], 2) else if r.length < 16 then ([], 40) else if (hmac s (r.take (r.length - 16))).take 16 = r.drop (r.length - 16) then (r.take (r.length - 16), 0) else ([], 41)

theorem sealA_le (s b : List UInt8) : (sealA s b).1.length ≤ b.length + 16 := by
  unfold sealA
  split
  · simp
  · rw [sealed_length]; omega
theorem openA_le (s r : List UInt8) : (openA s r).1.length ≤ r.length := by
  unfold openA
  split
  · simp
  · split
    · simp
    · split
      · rw [List.length_take]; omega
      · simp

theorem New.void (w : World) : New w [] (.slice none 0 0) w := ⟨w.heap.size, Row.nil _ _, Fr.refl _ _, Nat.le_refl _⟩
theorem New.noneF {w w' : World} (h : Fr (fun _ => False) w w') : New w [] (.slice none 0 0) w' := ⟨w.heap.size, Row.nil _ _, h, Nat.le_refl _⟩

theorem seal_all (w : World) (hT : TabP w) (s : List UInt8) (bo : Option Addr) (bcap : Nat) (bs : List UInt8) (hB : BAt w bo bcap bs) (hcap : bs.length ≤ bcap) (hfit : bs.length + 16 ≤ 140737488355328) :
    Calls Tryd.prog 20 #[.string ⟨s.toArray⟩, .slice bo bs.length bcap] w fun e w' => ∃ ao n cap, e = .returned (.tuple #[.slice ao n cap, .int .i64 (sealA s bs).2]) ∧ New w (sealA s bs).1 (.slice ao n cap) w' := by
  by_cases hs : 200 < s.length
  · refine (seal_long w s hs _).mono ?_
    rintro e w' ⟨rfl, rfl⟩
    unfold sealA
    rw [if_pos hs]
    exact ⟨_, _, _, rfl, New.void _⟩
  · refine (seal_any w hT s (by omega) bo bcap bs hB hcap hfit).mono ?_
    rintro e w' ⟨ao, cap, rfl, h⟩
    unfold sealA
    rw [if_neg hs]
    exact ⟨_, _, _, rfl, h⟩

theorem rseal_all (w : World) (hT : TabR w) (s : List UInt8) (bo : Option Addr) (bcap : Nat) (bs : List UInt8) (hB : BAt w bo bcap bs) (hfit : bs.length + 136 ≤ 140737488355328) :
    Calls Tryd.prog 22 #[.string ⟨s.toArray⟩, .slice bo bs.length bcap] w fun e w' => ∃ ao n cap, e = .returned (.tuple #[.slice ao n cap, .int .i64 (sealA s bs).2]) ∧ New w (sealA s bs).1 (.slice ao n cap) w' := by
  by_cases hs : 200 < s.length
  · refine (rseal_long w s hs _).mono ?_
    rintro e w' ⟨rfl, rfl⟩
    unfold sealA
    rw [if_pos hs]
    exact ⟨_, _, _, rfl, New.void _⟩
  · refine (rseal_any w hT s (by omega) bo bcap bs hB hfit).mono ?_
    rintro e w' ⟨ao, cap, rfl, h⟩
    unfold sealA
    rw [if_neg hs]
    exact ⟨_, _, _, rfl, h⟩

theorem open_all (w : World) (hT : TabP w) (s : List UInt8) (ro : Option Addr) (rc : Nat) (r : List UInt8) (hB : BAt w ro rc r) (hcap : r.length ≤ rc) :
    Calls Tryd.prog 21 #[.string ⟨s.toArray⟩, .slice ro r.length rc] w fun e w' => ∃ ao n cap, e = .returned (.tuple #[.slice ao n cap, .int .i64 (openA s r).2]) ∧ New w (openA s r).1 (.slice ao n cap) w' := by
  by_cases hs : 200 < s.length
  · refine (open_long w s hs _).mono ?_
    rintro e w' ⟨rfl, rfl⟩
    unfold openA
    rw [if_pos hs]
    exact ⟨_, _, _, rfl, New.void _⟩
  · by_cases hn : r.length < 16
    · refine (open_short w s (by omega) ro r.length rc hn).mono ?_
      rintro e w' ⟨rfl, rfl⟩
      unfold openA
      rw [if_neg hs, if_pos hn]
      exact ⟨_, _, _, rfl, New.void _⟩
    · have hxl : (r.take (r.length - 16)).length = r.length - 16 := by rw [List.length_take]; omega
      have hyl : (r.drop (r.length - 16)).length = 16 := by rw [List.length_drop]; omega
      have hm : r.length - 16 + 16 = r.length := by omega
      have hB' : BAt w ro rc (r.take (r.length - 16) ++ r.drop (r.length - 16)) := by rw [List.take_append_drop]; exact hB
      by_cases he : (hmac s (r.take (r.length - 16))).take 16 = r.drop (r.length - 16)
      · have h := open_ok w hT s (by omega) ro rc _ _ (r.length - 16) hxl hyl hB' (by omega) he
        rw [hm] at h
        refine h.mono ?_
        rintro e w' ⟨ao, cap, rfl, h⟩
        unfold openA
        rw [if_neg hs, if_neg hn, if_pos he]
        exact ⟨_, _, _, rfl, h⟩
      · have h := open_bad w hT s (by omega) ro rc _ _ (r.length - 16) hxl hyl hB' (by omega) he
        rw [hm] at h
        refine h.mono ?_
        rintro e w' ⟨rfl, h⟩
        unfold openA
        rw [if_neg hs, if_neg hn, if_neg he]
        exact ⟨_, _, _, rfl, New.noneF h⟩

theorem ropen_all (w : World) (hT : TabR w) (s : List UInt8) (ro : Option Addr) (rc : Nat) (r : List UInt8) (hB : BAt w ro rc r) (hcap : r.length ≤ rc) (hfit : r.length + 136 ≤ 140737488355328) :
    Calls Tryd.prog 23 #[.string ⟨s.toArray⟩, .slice ro r.length rc] w fun e w' => ∃ ao n cap, e = .returned (.tuple #[.slice ao n cap, .int .i64 (openA s r).2]) ∧ New w (openA s r).1 (.slice ao n cap) w' := by
  by_cases hs : 200 < s.length
  · refine (ropen_long w s hs _).mono ?_
    rintro e w' ⟨rfl, rfl⟩
    unfold openA
    rw [if_pos hs]
    exact ⟨_, _, _, rfl, New.void _⟩
  · by_cases hn : r.length < 16
    · refine (ropen_short w s (by omega) ro r.length rc hn).mono ?_
      rintro e w' ⟨rfl, rfl⟩
      unfold openA
      rw [if_neg hs, if_pos hn]
      exact ⟨_, _, _, rfl, New.void _⟩
    · have hxl : (r.take (r.length - 16)).length = r.length - 16 := by rw [List.length_take]; omega
      have hyl : (r.drop (r.length - 16)).length = 16 := by rw [List.length_drop]; omega
      have hm : r.length - 16 + 16 = r.length := by omega
      have hB' : BAt w ro rc (r.take (r.length - 16) ++ r.drop (r.length - 16)) := by rw [List.take_append_drop]; exact hB
      have h := ropen_any w hT s (by omega) ro rc _ _ (r.length - 16) hxl hyl hB' (by omega) (by omega)
      rw [hm] at h
      refine h.mono ?_
      rintro e w' ⟨h1, h2⟩
      by_cases he : (hmac s (r.take (r.length - 16))).take 16 = r.drop (r.length - 16)
      · obtain ⟨ao, cap, rfl, h⟩ := h1 he
        unfold openA
        rw [if_neg hs, if_neg hn, if_pos he]
        exact ⟨_, _, _, rfl, h⟩
      · obtain ⟨rfl, h⟩ := h2 he
        unfold openA
        rw [if_neg hs, if_neg hn, if_neg he]
        exact ⟨_, _, _, rfl, New.noneF h⟩

/-- Four rows. -/
def four (a b c d : RD) : Nat → RD
  | 0 => a
  | 1 => b
  | 2 => c
  | _ => d

theorem four_handed {w : World} {a b c d : RD} (oa : Own w a) (ob : Own w b) (oc : Own w c) (od : Own w d)
    (ab : 0 < a.cap → 0 < b.cap → a.g < b.g) (ac : 0 < a.cap → 0 < c.cap → a.g < c.g) (ad : 0 < a.cap → 0 < d.cap → a.g < d.g) (bc : 0 < b.cap → 0 < c.cap → b.g < c.g) (bd : 0 < b.cap → 0 < d.cap → b.g < d.g) (cd : 0 < c.cap → 0 < d.cap → c.g < d.g)
    (fa : a.n + 9 ≤ 140737488355328) (fb : b.n + 9 ≤ 140737488355328) (fc : c.n + 9 ≤ 140737488355328) (fd : d.n + 9 ≤ 140737488355328) :
    Handed (w.alloc (.cells #[a.val, b.val, c.val, d.val] 22)) w.heap.size 4 (four a b c d) := by
  have st : ∀ {x : RD}, Own w x → Own (w.alloc (.cells #[a.val, b.val, c.val, d.val] 22)) x := fun h => h.stay (fun hc => Below.heap_alloc _ _ _ (h.lt hc))
  refine ⟨fun j hj => ?_, fun j hj => ?_, fun j k hj hk hne h1 h2 => ?_, fun j hj hc => ?_, fun j hj => ?_, by omega⟩
  · rw [World.cell?_alloc_new]
    match j, hj with
    | 0, _ => rfl
    | 1, _ => rfl
    | 2, _ => rfl
    | 3, _ => rfl
  · match j, hj with
    | 0, _ => exact st oa
    | 1, _ => exact st ob
    | 2, _ => exact st oc
    | 3, _ => exact st od
  · match j, k, hj, hk with
    | 0, 0, _, _ => exact absurd rfl hne
    | 1, 1, _, _ => exact absurd rfl hne
    | 2, 2, _, _ => exact absurd rfl hne
    | 3, 3, _, _ => exact absurd rfl hne
    | 0, 1, _, _ => have := ab h1 h2; simp only [four]; omega
    | 0, 2, _, _ => have := ac h1 h2; simp only [four]; omega
    | 0, 3, _, _ => have := ad h1 h2; simp only [four]; omega
    | 1, 2, _, _ => have := bc h1 h2; simp only [four]; omega
    | 1, 3, _, _ => have := bd h1 h2; simp only [four]; omega
    | 2, 3, _, _ => have := cd h1 h2; simp only [four]; omega
    | 1, 0, _, _ => have := ab h2 h1; simp only [four]; omega
    | 2, 0, _, _ => have := ac h2 h1; simp only [four]; omega
    | 3, 0, _, _ => have := ad h2 h1; simp only [four]; omega
    | 2, 1, _, _ => have := bc h2 h1; simp only [four]; omega
    | 3, 1, _, _ => have := bd h2 h1; simp only [four]; omega
    | 3, 2, _, _ => have := cd h2 h1; simp only [four]; omega
  · match j, hj with
    | 0, _ => have := oa.lt hc; simp only [four]; omega
    | 1, _ => have := ob.lt hc; simp only [four]; omega
    | 2, _ => have := oc.lt hc; simp only [four]; omega
    | 3, _ => have := od.lt hc; simp only [four]; omega
  · match j, hj with
    | 0, _ => exact fa
    | 1, _ => exact fb
    | 2, _ => exact fc
    | 3, _ => exact fd

set_option maxHeartbeats 4000000 in
set_option maxRecDepth 100000 in
theorem opens_walk (w : World) (hT : TabP w) (hR : TabR w) (s : List UInt8) (ao : Option Addr) (ac : Nat) (a : List UInt8) (hA : BAt w ao ac a) (bo : Option Addr) (bc : Nat) (b : List UInt8) (hB : BAt w bo bc b) (hcb : b.length ≤ bc) (hfa : a.length + 136 ≤ 140737488355328) (hfb : b.length + 136 ≤ 140737488355328) :
    Calls Tryd.prog 5 #[.string ⟨s.toArray⟩, .slice ao a.length ac, .slice bo b.length bc] w fun e w' => e = .returned (.bool true) ∧ Fr (fun _ => False) w w' := by
  have HT := hide hT
  have HR := hide hR
  have HA := hide hA
  have HB := hide hB
  clear hT hR hA hB
  obtain ⟨Z, l, hZ⟩ : ∃ Z l, sealA s a = (Z, l) := ⟨_, _, rfl⟩
  obtain ⟨X, k, hX⟩ : ∃ X k, openA s b = (X, k) := ⟨_, _, rfl⟩
  have hZl : Z.length ≤ a.length + 16 := by have := sealA_le s a; rw [hZ] at this; exact this
  have hXl : X.length ≤ b.length := by have := openA_le s b; rw [hX] at this; exact this
  have HZ := hide hZ
  have HX := hide hX
  clear hZ hX
  go_enter Tryd.func5, Tryd.ntmps5
  go_wp2_with fail
  refine (awake_any w (unhide HT)).mono ?_
  rintro e w1 ⟨rfl, hF1⟩
  have HF1 := hide hF1
  clear hF1
  go_wp2_with fail
  refine (lent_any w1 ao ac a ((unhide HA).later (unhide HF1))).mono ?_
  rintro e w2 ⟨g0, rfl, hF2, hg0, hrow⟩
  have HF2 := hide ((unhide HF1).trans hF2 (fun _ _ t => t))
  have hg : w.heap.size ≤ g0 := Nat.le_trans (unhide HF1).size hg0
  have hgl : g0 < w2.heap.size := World.block_lt_of_cell? _ _ (hrow 0 (by omega)).1
  have HL := hide hrow
  clear hF2 hg0 hrow HF1
  go_wp2_with fail
  have HC := hide (seal_all w2 ((unhide HT).later (unhide HF2)) s _ (a.length + 3) a (lent_bat (by omega) (unhide HL)) (by omega) (by omega))
  rw [unhide HZ] at HC
  dsimp only at HC
  refine (unhide HC).mono ?_
  rintro e w3 ⟨so, sn, sc, rfl, g3, x1, x2, x3⟩
  have hs3 : 0 < sc → g3 < w3.heap.size := x1.ownn.lt
  have H3 := hide (And.intro x1 ((unhide HF2).trans x2 (fun _ _ t => t)))
  have HL3 := hide (lent_stay (unhide HL) x2 (fun t => t))
  have hw23 := x2.size
  clear x1 x2 HL HC
  go_wp2_with fail
  have HC := hide (seal_all w3 ((unhide HT).later (unhide H3).2) s _ (a.length + 3) a (lent_bat (by omega) (unhide HL3)) (by omega) (by omega))
  rw [unhide HZ] at HC
  dsimp only at HC
  refine (unhide HC).mono ?_
  rintro e w4 ⟨to, tn, tc, rfl, g4, y1, y2, y3⟩
  have hs4 : 0 < tc → g4 < w4.heap.size := y1.ownn.lt
  have H4 := hide (And.intro ((unhide H3).1.frame y2 (fun t => t)) (And.intro y1 ((unhide H3).2.trans y2 (fun _ _ t => t))))
  have HL4 := hide (lent_stay (unhide HL3) y2 (fun t => t))
  have hw34 := y2.size
  clear y1 y2 HL3 HC H3
  go_wp2_with fail
  refine (back_any w4 ao ac a ((unhide HA).later (unhide H4).2.2) g0 ((unhide HA).apart hg) (unhide HL4)).mono ?_
  rintro e w5 ⟨rfl, hF5⟩
  have H5 := hide (And.intro ((unhide H4).1.frame hF5 (by show ¬ g3 = g0; omega)) (And.intro ((unhide H4).2.1.frame hF5 (by show ¬ g4 = g0; omega)) ((unhide H4).2.2.trans hF5 (T := (· = g0)) (fun i hi t => by omega))))
  have hw45 := hF5.size
  clear hF5 H4 HL4
  go_wp2_with fail
  refine (lent_any w5 bo bc b ((unhide HB).later (unhide H5).2.2)).mono ?_
  rintro e w6 ⟨g5, rfl, hF6, hg5, hrow⟩
  have hgl5 : g5 < w6.heap.size := World.block_lt_of_cell? _ _ (hrow 0 (by omega)).1
  have hw56 := hF6.size
  have H6 := hide (And.intro ((unhide H5).1.frame hF6 (fun t => t)) (And.intro ((unhide H5).2.1.frame hF6 (fun t => t)) ((unhide H5).2.2.trans hF6 (fun _ _ t => t))))
  have HL := hide hrow
  clear hF6 hrow H5
  go_wp2_with fail
  have HC := hide (open_all w6 ((unhide HT).later (unhide H6).2.2) s _ (b.length + 3) b (lent_bat (by omega) (unhide HL)) (by omega))
  rw [unhide HX] at HC
  dsimp only at HC
  refine (unhide HC).mono ?_
  rintro e w7 ⟨xo, xn, xc, rfl, g7, x1, x2, x7⟩
  have hs7 : 0 < xc → g7 < w7.heap.size := x1.ownn.lt
  have H7 := hide (And.intro ((unhide H6).1.frame x2 (fun t => t)) (And.intro ((unhide H6).2.1.frame x2 (fun t => t)) (And.intro x1 ((unhide H6).2.2.trans x2 (fun _ _ t => t)))))
  have HL7 := hide (lent_stay (unhide HL) x2 (fun t => t))
  have hw67 := x2.size
  clear x1 x2 HL HC H6
  go_wp2_with fail
  have HC := hide (open_all w7 ((unhide HT).later (unhide H7).2.2.2) s _ (b.length + 3) b (lent_bat (by omega) (unhide HL7)) (by omega))
  rw [unhide HX] at HC
  dsimp only at HC
  refine (unhide HC).mono ?_
  rintro e w8 ⟨yo, yn, yc, rfl, g8, x1, x2, x8⟩
  have H8 := hide (And.intro ((unhide H7).1.frame x2 (fun t => t)) (And.intro ((unhide H7).2.1.frame x2 (fun t => t)) (And.intro ((unhide H7).2.2.1.frame x2 (fun t => t)) (And.intro x1 ((unhide H7).2.2.2.trans x2 (fun _ _ t => t))))))
  have HL8 := hide (lent_stay (unhide HL7) x2 (fun t => t))
  clear x1 x2 HL7 HC H7
  have hwa := (unhide HF2).size
  go_wp2_with fail
  refine (back_any w8 bo bc b ((unhide HB).later (unhide H8).2.2.2.2) g5 ((unhide HB).apart (by omega)) (unhide HL8)).mono ?_
  rintro e w9 ⟨rfl, hF9⟩
  have e1 : 0 < sc → g3 ≠ g5 := fun h => by have := hs3 h; omega
  have e2 : 0 < tc → g4 ≠ g5 := fun h => by have := hs4 h; omega
  have H9 := hide (And.intro ((unhide H8).1.elsewhere (w' := w9) (fun h => hF9.block g3 ((unhide H8).1.ownn.lt h) (e1 h))) (And.intro ((unhide H8).2.1.elsewhere (w' := w9) (fun h => hF9.block g4 ((unhide H8).2.1.ownn.lt h) (e2 h))) (And.intro ((unhide H8).2.2.1.frame hF9 (by show ¬ g7 = g5; omega)) (And.intro ((unhide H8).2.2.2.1.frame hF9 (by show ¬ g8 = g5; omega)) ((unhide H8).2.2.2.2.trans hF9 (T := (· = g5)) (fun i hi t => by omega))))))
  clear hF9 H8 HL8
  go_wp2_with fail
  have HC := hide (rseal_all w9 ((unhide HR).later (unhide H9).2.2.2.2) s ao ac a ((unhide HA).later (unhide H9).2.2.2.2) hfa)
  rw [unhide HZ] at HC
  dsimp only at HC
  refine (unhide HC).mono ?_
  rintro e w10 ⟨uo, un, uc, rfl, g10, u1, u2, u3⟩
  have H10 := hide (And.intro ((unhide H9).1.frame u2 (fun t => t)) (And.intro ((unhide H9).2.1.frame u2 (fun t => t)) (And.intro ((unhide H9).2.2.1.frame u2 (fun t => t)) (And.intro ((unhide H9).2.2.2.1.frame u2 (fun t => t)) (And.intro u1 ((unhide H9).2.2.2.2.trans u2 (fun _ _ t => t)))))))
  clear u1 u2 u3 H9 HC
  go_wp2_with fail
  have HC := hide (ropen_all w10 ((unhide HR).later (unhide H10).2.2.2.2.2) s bo bc b ((unhide HB).later (unhide H10).2.2.2.2.2) hcb hfb)
  rw [unhide HX] at HC
  dsimp only at HC
  refine (unhide HC).mono ?_
  rintro e w11 ⟨vo, vn, vc, rfl, g11, v1, v2, v3⟩
  have s1 := (unhide H10).1.frame v2 (fun t => t)
  have s2 := (unhide H10).2.1.frame v2 (fun t => t)
  have s3 := (unhide H10).2.2.1.frame v2 (fun t => t)
  have s4 := (unhide H10).2.2.2.1.frame v2 (fun t => t)
  have s5 := (unhide H10).2.2.2.2.1.frame v2 (fun t => t)
  have HF11 := hide ((unhide H10).2.2.2.2.2.trans v2 (fun _ _ t => t))
  have len : ∀ {w : World} {ao : Option Addr} {n cap g : Nat} {bs : List UInt8}, Row w (.slice ao n cap) g bs → bs.length = n := fun h => by
    obtain ⟨_, _, e, _⟩ := h.shape
    injection e with _ e _
    exact e.symm
  have n1 := len s1
  have n2 := len s2
  have n3 := len s3
  have n4 := len s4
  have n5 := len s5
  have n6 := len v1
  have c1 := conv_bytes (s1.batn (by omega)).1
  have c2 := conv_bytes (s2.batn (by omega)).1
  have c3 := conv_bytes (s3.batn (by omega)).1
  have c4 := conv_bytes (s4.batn (by omega)).1
  have c5 := conv_bytes (s5.batn (by omega)).1
  have c6 := conv_bytes (v1.batn (by omega)).1
  rw [n1] at c1
  rw [n2] at c2
  rw [n3] at c3
  rw [n4] at c4
  rw [n5] at c5
  rw [n6] at c6
  have HHd := hide (four_handed (a := ⟨so, sn, sc, g3⟩) (b := ⟨to, tn, tc, g4⟩) (c := ⟨xo, xn, xc, g7⟩) (d := ⟨yo, yn, yc, g8⟩) s1.ownn s2.ownn s3.ownn s4.ownn
    (fun h _ => by have := hs3 h; simp only []; omega) (fun h _ => by have := hs3 h; simp only []; omega) (fun h _ => by have := hs3 h; simp only []; omega) (fun h _ => by have := hs4 h; simp only []; omega) (fun h _ => by have := hs4 h; simp only []; omega) (fun h _ => by have := hs7 h; simp only []; omega)
    (by simp only []; omega) (by simp only []; omega) (by simp only []; omega) (by simp only []; omega))
  simp only [RD.val] at HHd
  have ll : (l != l) = false := by simp
  have kk : (k != k) = false := by simp
  have ZZ : (Z == Z) = true := by simp
  have XX : (X == X) = true := by simp
  have HN := hide (And.intro n1 (And.intro n2 (And.intro n3 (And.intro n4 (And.intro n5 n6)))))
  clear s1 s2 s3 s4 s5 v1 v2 v3 len n1 n2 n3 n4 n5 n6 H10 HC
  go_wp2_with fail
  refine (owned_any _ w11.heap.size 4 4 _ (unhide HHd)).mono ?_
  rintro e w12 ⟨rfl, hF12⟩
  have HF12 := hide (((unhide HF11).alloc _).trans hF12 (fun i hi t => by
    obtain ⟨j, hj, hc, e⟩ := t
    match j, hj, e with
    | 0, _, e => have e' : i = g3 := e; omega
    | 1, _, e => have e' : i = g4 := e; omega
    | 2, _, e => have e' : i = g7 := e; omega
    | 3, _, e => have e' : i = g8 := e; omega))
  clear hF12
  go_wp2
  go_ret
  exact ⟨rfl, unhide HF12⟩

end Go.Proofs.YtgklgbomfipagaaDoor
