/- The document's own Frame and Open. -/
import Derived.Test.YtgbaofdbdpopnaaDoorR1
import Derived.Test.YtgbaofdbdpopnaaDoorS4
namespace Go.Proofs.YtgbaofdbdpopnaaDoor
open Go.RowKit

theorem le4_take (n i : Nat) (hi : i < 4) : (le4 n).take (i + 1) = (le4 n).take i ++ [UInt8.ofNat (n / 256 ^ i)] := by
  match i, hi with
  | 0, _ => simp [le4]
  | 1, _ => simp [le4]
  | 2, _ => simp [le4]
  | 3, _ => simp [le4]

/-- The byte that a round appends. -/
theorem one_byte (w : World) (x : UInt8) (i : Nat) (hi1 : i < [x].length) : (w.alloc (.cells #[.int .u8 (x.toNat : Int)] 5)).cell? ⟨w.heap.size, 0 + i, none⟩ = some (.int .u8 (([x][i].toNat : Nat) : Int)) := by
  obtain rfl : i = 0 := by simpa using hi1
  rw [World.cell?_alloc_new]
  rfl

set_option maxHeartbeats 1000000 in
theorem rframe_any (w : World) (ao : Option Addr) (cap : Nat) (bs : List UInt8) (hB : BAt w ao cap bs) (hfit : bs.length + 4 ≤ 140737488355328) :
    Calls Tryd.prog 20 #[.slice ao bs.length cap] w fun e w' => ∃ v, e = .returned v ∧ New w (frameF bs) v w' := by
  obtain ⟨i0, hi, hz0, hz1, hz2⟩ := info_parts Tryd.info5
  have HB := hide hB
  clear hB
  go_enter Tryd.func20, Tryd.ntmps20
  go_wp2_with (at_builtin; refine wpList_append_row _ rfl (.tmp 6) (.tmp 7) 22 22 rfl 5 i0 Tryd.underlying22 hi hz0 hz1 hz2 (g := w.heap.size) (bs := []) (cap := 0) rfl (Row.nil _ _) _ bs rfl ?src1 ?fit1 ?next1)
  case src1 => exact src_slice Tryd.underlying22 _ ao cap bs (unhide HB).2.1
  case fit1 => simp; omega
  intro ao1 cap1 w1 g1 hrow hfr hg
  have hF1 : Fr (fun _ => False) w w1 := hfr.mono (fun i hi t => by omega)
  have hrow' : Row w1 (.slice ao1 bs.length cap1) g1 bs := by simpa using hrow
  have HR1 := hide (And.intro hrow' (And.intro hF1 (show w.heap.size ≤ g1 by omega)))
  clear hrow hrow' hfr hg hF1
  go_wp2_with fail
  refine (rsum_any w1 ao cap bs ((unhide HB).later (unhide HR1).2.1)).mono ?_
  rintro e w2 ⟨rfl, rfl⟩
  have hS := sumF_lt bs
  obtain ⟨S, hSS⟩ : ∃ S, sumF bs = S := ⟨_, rfl⟩
  rw [hSS] at hS ⊢
  have HSS := hide hSS
  clear hSS
  go_wp2
  go_loopw [3, 4, 5] (fun ov sv iv wr => ∃ i : Nat, i ≤ 4 ∧ iv = .int .i64 i ∧ sv = .int .i64 (S / 256 ^ i : Nat) ∧ ∃ ao cap g l, ov = .slice ao l cap ∧ l = bs.length + i ∧ Hid (Row wr (.slice ao l cap) g (bs ++ (le4 S).take i) ∧ Fr (fun _ => False) w wr ∧ w.heap.size ≤ g)) (fun _ _ iv _ => 4 - (intOf iv).toNat)
  case atStart => exact ⟨0, by omega, rfl, by simp, ao1, cap1, g1, bs.length, rfl, rfl, by simpa using (unhide HR1).1, (unhide HR1).2.1, (unhide HR1).2.2⟩
  case round =>
    obtain ⟨i, hi4, rfl, rfl, ao2, cap2, g2, l, rfl, hl, HR⟩ := hrel
    by_cases hlt : i < 4
    · have htk := le4_take S i hlt
      have hdl : S / 256 ^ i < 4294967296 := Nat.lt_of_le_of_lt (Nat.div_le_self _ _) hS
      have hdn : S / 256 ^ (i + 1) = S / 256 ^ i / 256 := by rw [Nat.pow_succ, Nat.div_div_eq_div_mul]
      obtain ⟨q, hq⟩ : ∃ q, S / 256 ^ i = q := ⟨_, rfl⟩
      rw [hq] at htk hdl hdn ⊢
      obtain ⟨R, hR⟩ : ∃ R, bs ++ (le4 S).take i = R := ⟨_, rfl⟩
      have hRl : R.length = l := by rw [← hR, hl, List.length_append, List.length_take, le4_length]; omega
      have hRn : bs ++ (le4 S).take (i + 1) = R ++ [UInt8.ofNat q] := by rw [htk, ← List.append_assoc, hR]
      rw [hR] at HR
      have HRN := hide (And.intro hRn hdn)
      have hv : ((UInt8.ofNat q).toNat : Int) = (q : Int) % 256 := by rw [UInt8.toNat_ofNat']; omega
      have hlf : l + 1 ≤ 140737488355328 := by omega
      obtain ⟨hrow, hfr, hgg⟩ := unhide HR
      have HR2 := hide (And.intro hfr hgg)
      have HL := hide hl
      clear htk hdn hq hR HR hRn hfr hgg hl
      subst hRl
      have HRow := hide hrow
      clear hrow
      have hone := fun (w : World) => one_byte w (UInt8.ofNat q)
      rw [hv] at hone
      have HONE := hide hone
      clear hone hv
      go_wp2_with (at_builtin; refine wpList_append_row _ rfl (.tmp 15) (.tmp 19) 22 22 rfl 5 i0 Tryd.underlying22 hi hz0 hz1 hz2 (ao := ao2) (cap := cap2) (g := g2) (bs := R) rfl ((unhide HRow).stay (fun hx => Below.heap_alloc wr _ _ hx)) _ [UInt8.ofNat q] rfl (src_slice Tryd.underlying22 _ _ 1 [UInt8.ofNat q] (fun _ => ⟨wr.heap.size, 0, rfl, fun i hi1 => unhide HONE wr i hi1⟩)) hlf ?_)
      intro ao3 cap3 w3 g3 k1 k2 k3
      obtain ⟨m1, m2⟩ := unhide HR2
      have hF3 := (m1.alloc (.cells #[.int .u8 ((q : Int) % 256)] 5)).trans k2 (fun i hi t => by omega)
      have hg3 : w.heap.size ≤ g3 := by
        have h9 := m1.size
        rcases k3 with ⟨e1, _⟩ | k3 <;> omega
      have HN := hide (And.intro k1 (And.intro hF3 hg3))
      clear k1 k2 k3 m1 m2 hF3 hg3
      go_wp2
      refine ⟨⟨i + 1, by omega, by go_num, by rw [(unhide HRN).2]; simp, ao3, cap3, g3, R.length + 1, by simp, by have := unhide HL; omega, ?_, (unhide HN).2.1, (unhide HN).2.2⟩, by simp [intOf]; omega⟩
      rw [(unhide HRN).1]
      exact (unhide HN).1
    · obtain rfl : 4 = i := by omega
      go_wp2
      go_ret
      obtain ⟨r1, r2, r3⟩ := unhide HR
      refine ⟨_, rfl, g2, ?_, r2, r3⟩
      rw [frameF, unhide HSS]
      exact r1

theorem ropen_yes (w : World) (b off cap : Nat) (body tl : List UInt8) (htl : tl.length = 4) (hB : BAt w (some ⟨b, off, none⟩) cap (body ++ tl)) (hlc : body.length + 4 ≤ cap) (hq : (frameF body == body ++ tl) = true) :
    Calls Tryd.prog 21 #[.slice (some ⟨b, off, none⟩) (body.length + 4) cap] w fun e w' => ∃ v, e = .returned (.tuple #[v, .bool true]) ∧ New w body v w' := by
  obtain ⟨i0, hi, hz0, hz1, hz2⟩ := info_parts Tryd.info5
  have HB := hide hB
  have hsm := hB.2.2
  rw [List.length_append, htl] at hsm
  clear hB
  go_enter Tryd.func21, Tryd.ntmps21
  go_wp2_with (at_builtin; refine wpList_append_row _ rfl (.tmp 9) (.tmp 14) 22 22 rfl 5 i0 Tryd.underlying22 hi hz0 hz1 hz2 (g := w.heap.size) (bs := []) (cap := 0) rfl ?row1 _ body rfl ?src1 ?fit1 ?next1)
  case row1 => exact ⟨⟨_, 0, rfl, Nat.le_refl _, Nat.zero_le _, fun h => absurd h (by omega), fun j hj => absurd hj (by omega)⟩, fun j hj => absurd hj (by simp)⟩
  case src1 => exact src_slice Tryd.underlying22 _ _ cap body ((unhide HB).left.stay (fun _ _ _ _ hlt => Below.heap_alloc _ _ _ hlt)).2.1
  case fit1 => simp; omega
  intro ao1 cap1 w1 g1 hrow hfr hg
  have hF1 : Fr (fun _ => False) w w1 := ((Fr.refl _ w).alloc _).trans hfr (fun i hi t => by omega)
  have hrow' : Row w1 (.slice ao1 body.length cap1) g1 body := by simpa using hrow
  have hg1 : w.heap.size ≤ g1 := by
    rcases hg with ⟨e1, _⟩ | hg
    · omega
    · have : w.heap.size + 1 ≤ g1 := by simpa using hg
      omega
  have HR1 := hide (And.intro hrow' (And.intro hF1 hg1))
  clear hrow hrow' hfr hg hF1 hg1
  go_wp2_with fail
  refine (rframe_any w1 ao1 cap1 body ((unhide HR1).1.bat (by omega)).2 (by omega)).mono ?_
  rintro e w2 ⟨v, rfl, g2, hrow2, hF2, _⟩
  obtain ⟨fo, fc, rfl, _⟩ := hrow2.shape
  have hF12 := (unhide HR1).2.1.trans hF2 (fun _ _ t => t)
  have c1 := conv_bytes (hrow2.bat (by rw [frameF_length]; omega)).2
  have c2 := conv_bytes ((unhide HB).later hF12)
  rw [List.length_append, htl] at c2
  have HN := hide (And.intro ((unhide HR1).1.frame hF2 (fun t => t)) (And.intro hF12 (unhide HR1).2.2))
  clear hrow2 hF2 hF12 HR1
  go_wp2
  go_ret2
  exact ⟨_, rfl, g1, unhide HN⟩

theorem ropen_no (w : World) (b off cap : Nat) (body tl : List UInt8) (htl : tl.length = 4) (hB : BAt w (some ⟨b, off, none⟩) cap (body ++ tl)) (hlc : body.length + 4 ≤ cap) (hq : (frameF body == body ++ tl) = false) :
    Calls Tryd.prog 21 #[.slice (some ⟨b, off, none⟩) (body.length + 4) cap] w fun e w' => ∃ v, e = .returned (.tuple #[v, .bool false]) ∧ New w [] v w' := by
  obtain ⟨i0, hi, hz0, hz1, hz2⟩ := info_parts Tryd.info5
  have HB := hide hB
  have hsm := hB.2.2
  rw [List.length_append, htl] at hsm
  clear hB
  go_enter Tryd.func21, Tryd.ntmps21
  go_wp2_with (at_builtin; refine wpList_append_row _ rfl (.tmp 9) (.tmp 14) 22 22 rfl 5 i0 Tryd.underlying22 hi hz0 hz1 hz2 (g := w.heap.size) (bs := []) (cap := 0) rfl ?row1 _ body rfl ?src1 ?fit1 ?next1)
  case row1 => exact ⟨⟨_, 0, rfl, Nat.le_refl _, Nat.zero_le _, fun h => absurd h (by omega), fun j hj => absurd hj (by omega)⟩, fun j hj => absurd hj (by simp)⟩
  case src1 => exact src_slice Tryd.underlying22 _ _ cap body ((unhide HB).left.stay (fun _ _ _ _ hlt => Below.heap_alloc _ _ _ hlt)).2.1
  case fit1 => simp; omega
  intro ao1 cap1 w1 g1 hrow hfr hg
  have hF1 : Fr (fun _ => False) w w1 := ((Fr.refl _ w).alloc _).trans hfr (fun i hi t => by omega)
  have hrow' : Row w1 (.slice ao1 body.length cap1) g1 body := by simpa using hrow
  have hg1 : w.heap.size ≤ g1 := by
    rcases hg with ⟨e1, _⟩ | hg
    · omega
    · have : w.heap.size + 1 ≤ g1 := by simpa using hg
      omega
  have HR1 := hide (And.intro hrow' (And.intro hF1 hg1))
  clear hrow hrow' hfr hg hF1 hg1
  go_wp2_with fail
  refine (rframe_any w1 ao1 cap1 body ((unhide HR1).1.bat (by omega)).2 (by omega)).mono ?_
  rintro e w2 ⟨v, rfl, g2, hrow2, hF2, _⟩
  obtain ⟨fo, fc, rfl, _⟩ := hrow2.shape
  have hF12 := (unhide HR1).2.1.trans hF2 (fun _ _ t => t)
  have c1 := conv_bytes (hrow2.bat (by rw [frameF_length]; omega)).2
  have c2 := conv_bytes ((unhide HB).later hF12)
  rw [List.length_append, htl] at c2
  have HN := hide (And.intro ((unhide HR1).1.frame hF2 (fun t => t)) (And.intro hF12 (unhide HR1).2.2))
  clear hrow2 hF2 hF12 HR1
  go_wp2
  go_ret2
  exact ⟨_, rfl, w.heap.size, Row.nil _ _, (unhide HN).2.1, Nat.le_refl _⟩

theorem ropen_short (w : World) (ao : Option Addr) (n cap : Nat) (hn : n < 4) :
    Calls Tryd.prog 21 #[.slice ao n cap] w fun e w' => e = .returned (.tuple #[.slice none 0 0, .bool false]) ∧ w' = w := by
  have hd : decide ((n : Int) < 4) = true := by simp; omega
  go_enter Tryd.func21, Tryd.ntmps21
  go_wp2
  go_ret2
  exact ⟨rfl, rfl⟩

/-- Any bytes. -/
theorem ropen_any (w : World) (ao : Option Addr) (cap : Nat) (bs : List UInt8) (hB : BAt w ao cap bs) (hlc : bs.length ≤ cap) :
    Calls Tryd.prog 21 #[.slice ao bs.length cap] w fun e w' => ∃ v, e = .returned (.tuple #[v, .bool (openF bs).isSome]) ∧ New w ((openF bs).getD []) v w' := by
  by_cases h4 : bs.length < 4
  · rw [openF_short h4]
    refine (ropen_short w ao bs.length cap h4).mono ?_
    rintro e w' ⟨rfl, rfl⟩
    exact ⟨_, rfl, w'.heap.size, Row.nil _ _, Fr.refl _ _, Nat.le_refl _⟩
  · obtain ⟨body, tl, rfl, htl⟩ : ∃ body tl, bs = body ++ tl ∧ tl.length = 4 := ⟨bs.take (bs.length - 4), bs.drop (bs.length - 4), (List.take_append_drop _ _).symm, by rw [List.length_drop]; omega⟩
    obtain ⟨b, off, rfl, _⟩ := hB.2.1 (by omega)
    rw [openF_parts body tl htl, List.length_append, htl]
    rw [List.length_append, htl] at hlc
    by_cases hq : tl = le4 (sumF body)
    · rw [if_pos hq]
      exact ropen_yes w b off cap body tl htl hB hlc (by rw [frameF, hq]; simp)
    · rw [if_neg hq]
      exact ropen_no w b off cap body tl htl hB hlc (by
        have : frameF body ≠ body ++ tl := fun e => hq (List.append_cancel_left e).symm
        simpa using this)

end Go.Proofs.YtgbaofdbdpopnaaDoor
