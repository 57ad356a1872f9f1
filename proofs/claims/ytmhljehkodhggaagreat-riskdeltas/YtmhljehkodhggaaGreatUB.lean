import Derived.Test.YtmhljehkodhggaaGreatUA
/- The document's own: a token put into a rising list, what of the one is not in the other one, is a token in both? -/
namespace Go.Proofs.YtmhljehkodhggaaGreat
open Go.RowKit

theorem putL_at : ∀ (l : List ByteArray) (s : ByteArray) (i : Nat), i ≤ l.length → (∀ j (hj : j < l.length), j < i → ltS l[j] s = true) → (∀ hi : i < l.length, ltS l[i] s = false) → ((∀ hi : i < l.length, eqS l[i] s = true → putL l s = l) ∧ ((∀ hi : i < l.length, eqS l[i] s = false) → putL l s = l.take i ++ [s] ++ l.drop i))
  | [], s, i, hi, _, _ => by
    obtain rfl : i = 0 := by simpa using hi
    exact ⟨fun h => absurd h (by simp), fun _ => rfl⟩
  | a :: l, s, 0, _, _, h2 => by
    have h3 : ltS a s = false := h2 (by simp)
    refine ⟨fun _ h => ?_, fun h => ?_⟩
    · rw [putL, h3, if_neg (by simp), if_pos (show eqS a s = true from h)]
    · have h4 : eqS a s = false := h (by simp)
      rw [putL, h3, if_neg (by simp), h4, if_neg (by simp)]
      rfl
  | a :: l, s, i + 1, hi, h1, h2 => by
    have h3 : ltS a s = true := h1 0 (by simp) (by omega)
    obtain ⟨k1, k2⟩ := putL_at l s i (by simpa using hi) (fun j hj hji => h1 (j + 1) (by simpa using hj) (by omega)) (fun hi' => h2 (by simpa using hi'))
    refine ⟨fun hi' h => ?_, fun h => ?_⟩
    · rw [putL, h3, if_pos rfl, k1 (by simpa using hi') h]
    · rw [putL, h3, if_pos rfl, k2 (fun hi' => h (by simpa using hi'))]
      rfl

set_option maxRecDepth 20000 in
/-- The first ones of a slice; those behind them. -/
theorem SAt.cut {w : World} {ao : Option Addr} {cap : Nat} {l : List ByteArray} (h : SAt w ao l) (hl : l.length ≤ cap) (i : Nat) (hi : i ≤ l.length) :
    (∃ bo, (∀ u : World, (Instr.slice 22 (.slice ao l.length cap) none (some (.int .i64 (i : Int))) none).run Tryz.prog u = .ok (.slice bo (l.take i).length cap) u) ∧ SAt w bo (l.take i)) ∧
    (∃ bo, (∀ u : World, (Instr.slice 22 (.slice ao l.length cap) (some (.int .i64 (i : Int))) none none).run Tryz.prog u = .ok (.slice bo (l.drop i).length (cap - i)) u) ∧ SAt w bo (l.drop i)) := by
  constructor
  · obtain ⟨bo, hbo⟩ : ∃ bo, sliced ao 0 i cap 1 = .slice bo (i - 0) (cap - 0) := ⟨_, rfl⟩
    refine ⟨bo, fun u => ?_, fun h0 => ?_⟩
    · rw [run_slice_h (P := Tryz.prog) (w := u) 22 ao l.length cap Tryz.underlying22 .i64 (i : Int) (by omega) (by omega)]
      have e : (.slice bo (l.take i).length cap : Value) = sliced ao 0 i cap 1 := by rw [hbo, List.length_take]; congr 1; omega
      rw [e]
      rfl
    · rw [List.length_take] at h0
      obtain ⟨b, off, rfl, hc⟩ := h (by omega)
      refine ⟨b, off, ?_, fun j hj => ?_⟩
      · unfold sliced at hbo
        rw [if_neg (by omega)] at hbo
        injection hbo with e1
        rw [← e1]
        simp [Addr.add_lit]
      · rw [List.length_take] at hj
        rw [hc j (by omega), getD_eq (by omega), getD_eq (by rw [List.length_take]; omega)]
        simp
  · obtain ⟨bo, hbo⟩ : ∃ bo, sliced ao i l.length cap 1 = .slice bo (l.length - i) (cap - i) := ⟨_, rfl⟩
    refine ⟨bo, fun u => ?_, fun h0 => ?_⟩
    · rw [run_slice_l (P := Tryz.prog) (w := u) 22 ao l.length cap Tryz.underlying22 .i64 (i : Int) (by omega) (by omega), List.length_drop, ← hbo]
      rfl
    · rw [List.length_drop] at h0
      obtain ⟨b, off, rfl, hc⟩ := h (by omega)
      refine ⟨b, off + i, ?_, fun j hj => ?_⟩
      · unfold sliced at hbo
        rw [if_neg (by omega)] at hbo
        injection hbo with e1
        rw [← e1]
        simp [Addr.add_lit]
      · rw [List.length_drop] at hj
        have := hc (i + j) (by omega)
        rw [show off + i + j = off + (i + j) by omega, this, getD_eq (by omega), getD_eq (by rw [List.length_drop]; omega)]
        simp

theorem LO.grewN {w0 W w' : World} {ao ao' : Option Addr} {cap g cap' g' : Nat} {l m : List ByteArray} (h : LO w0 W ao cap g l) (hs : w0.heap.size ≤ W.heap.size) (hK : KRow w' ao' cap' g' 1 (tkV l ++ tkV m)) (hG : Grew W g cap w' g' cap') : LO w0 w' ao' cap' g' (l ++ m) ∧ Fr (fun q => w0.heap.size ≤ q) W w' := by
  refine ⟨⟨by rw [tkV_app]; exact hK, fun hc => ?_⟩, ?_⟩
  · rcases hG with ⟨e1, e2, _⟩ | ⟨e1, _, _⟩
    · subst e1 e2; exact h.new hc
    · omega
  · rcases hG with ⟨_, _, hf2⟩ | ⟨_, _, hf2⟩
    · exact hf2.mono (fun i _ t => by rw [t.1]; exact h.new t.2)
    · exact hf2.mono (fun _ _ t => t.elim)
theorem Fr.newer {w W w' : World} (h : Fr (fun _ => False) w W) (k : Fr (fun q => w.heap.size ≤ q) W w') : Fr (fun _ => False) w w' := h.trans k (fun i hi t => by omega)

set_option maxHeartbeats 4000000 in
set_option maxRecDepth 20000 in
theorem put_any2 (w0 w : World) (ao : Option Addr) (cap g : Nat) (l : List ByteArray) (s : ByteArray) (h : LO w0 w ao cap g l) (hw : w0.heap.size ≤ w.heap.size) (hl : l.length ≤ 100000) :
    Calls Tryz.prog 34 #[.slice ao l.length cap, .string s] w fun e w' => ∃ ao' cap' g', e = .returned (.slice ao' (putL l s).length cap') ∧ LO w0 w' ao' cap' g' (putL l s) ∧ Fr (fun _ => False) w w' ∧ ((cap' = cap ∧ g' = g) ∨ (0 < cap' → w.heap.size ≤ g')) := by
  obtain ⟨info, hi, hzz⟩ := Option.map_eq_some_iff.1 Token_info
  simp only [Prod.mk.injEq] at hzz
  have HI := hide (And.intro hi hzz)
  have H := hide h
  have HW := hide hw
  clear hi hzz h hw
  go_enter Tryz.func34, Tryz.ntmps34
  go_wp2
  go_loopw [5] (fun iv wr => ∃ (i : Nat), i ≤ l.length ∧ iv = .int .i64 i ∧ wr = w ∧ Hid (∀ j (hj : j < l.length), j < i → ltS l[j] s = true)) (fun iv _ => l.length - (intOf iv).toNat)
  case atStart => exact ⟨0, Nat.zero_le _, rfl, rfl, fun j hj h => absurd h (by omega)⟩
  case round =>
    obtain ⟨i, hil, rfl, rfl, HJ⟩ := hrel
    have HQ := hide (putL_at l s i hil (unhide HJ))
    by_cases hi : i < l.length
    · obtain ⟨b, off, rfl, c0⟩ := (unhide H).sat.at hi
      cases hx : ltS l[i] s with
      | true =>
        have HN : Hid (∀ j (hj : j < l.length), j < i + 1 → ltS l[j] s = true) := hide (fun j hj h => by
          by_cases e : j = i
          · subst e; exact hx
          · exact unhide HJ j hj (by omega))
        have hx' : Op.bytesLess l[i].toList s.toList = true := hx
        generalize l[i] = x at *
        clear hx HQ
        go_wp2
        exact ⟨⟨i + 1, by omega, by go_num, by first | rfl | trivial, unhide HN⟩, by simp [intOf]; omega⟩
      | false =>
        obtain ⟨q1, q2⟩ := unhide HQ (fun _ => hx)
        cases hy : eqS l[i] s with
        | true =>
          have HE := hide (q1 hi hy)
          have hx' : Op.bytesLess l[i].toList s.toList = false := hx
          have hy' : (l[i].toList == s.toList) = true := hy
          generalize l[i] = x at *
          clear hx hy q1 q2 HQ HJ
          go_wp2
          go_ret
          exact ⟨_, cap, g, by rw [unhide HE]; rfl, by rw [unhide HE]; exact unhide H, Fr.refl _ _, Or.inl ⟨rfl, rfl⟩⟩
        | false =>
          have HE := hide (q2 (fun _ => hy))
          have hx' : Op.bytesLess l[i].toList s.toList = false := hx
          have hy' : (l[i].toList == s.toList) = false := hy
          generalize l[i] = x at *
          clear hx hy q1 q2 HQ HJ
          obtain ⟨T1, T2, hT1, hT2, hT3, ⟨f1, hf1, hS1⟩, ⟨f2, hf2, hS2⟩⟩ : ∃ T1 T2 : List ByteArray, Hid (putL l s = T1 ++ [s] ++ T2) ∧ T1.length ≤ 100000 ∧ T2.length ≤ 100000 ∧ (∃ bo, (∀ u : World, (Instr.slice 22 (.slice (some ⟨b, off, none⟩) l.length cap) none (some (.int .i64 (i : Int))) none).run Tryz.prog u = .ok (.slice bo T1.length cap) u) ∧ SAt wr bo T1) ∧ (∃ bo, (∀ u : World, (Instr.slice 22 (.slice (some ⟨b, off, none⟩) l.length cap) (some (.int .i64 (i : Int))) none none).run Tryz.prog u = .ok (.slice bo T2.length (cap - i)) u) ∧ SAt wr bo T2) :=
            ⟨l.take i, l.drop i, unhide HE, by rw [List.length_take]; omega, by rw [List.length_drop]; omega, ((unhide H).sat.cut (unhide H).len i (by omega)).1, ((unhide H).sat.cut (unhide H).len i (by omega)).2⟩
          clear HE
          have hA : Fr (fun _ => False) wr (wr.alloc (.cells #[] 9)) := (Fr.refl _ _).alloc _
          have HK : Hid (LO wr (wr.alloc (.cells #[] 9)) (some ⟨wr.heap.size, 0, none⟩) 0 0 []) := hide ⟨⟨Nat.zero_le _, Nat.zero_le _, fun h => absurd h (by omega), fun j hj => absurd hj (by omega), fun j hj => absurd hj (by simp [tkV]), fun u hu => by simp [tkV] at hu⟩, fun h => absurd h (by omega)⟩
          have HS := hide ((hS1.keep hA).src cap)
          have HA := hide hA
          have HSS2 := hide hS2
          clear hA hS1 hS2
          go_wp2_with (at_builtin; refine wpList_append_krow _ rfl (.tmp 34) (.tmp 37) 22 22 rfl 9 info _ 1 (by omega) Tryz.underlying22 (unhide HI).1 (unhide HI).2.1 rfl (unhide HI).2.2.1 rfl (unhide HK).row rfl _ _ T1.length rfl (unhide HS) (by rw [(unhide HI).2.2.2]; omega) (by omega) ?_)
          intro a1 c1 w1 g1 hK hG
          have H1 : Hid (LO wr w1 a1 c1 g1 T1 ∧ Fr (fun _ => False) wr w1) := hide (by
            obtain ⟨k1, k2⟩ := (unhide HK).grewN (m := T1) (unhide HA).size hK hG
            exact ⟨k1, (unhide HA).newer k2⟩)
          clear hK hG HK HS HA
          have HW1 : Hid (LO wr (w1.alloc (.cells #[.string s] 9)) a1 c1 g1 T1 ∧ Fr (fun _ => False) wr (w1.alloc (.cells #[.string s] 9))) := hide ⟨(unhide H1).1.keep ((Fr.refl _ _).alloc _), (unhide H1).2.alloc _⟩
          have HSR := hide (src_one (P := Tryz.prog) w1 [.string s] 22 9 1 Tryz.underlying22 rfl (fun u hu => by simp only [List.mem_cons, List.not_mem_nil, or_false] at hu; subst hu; rfl) (W := w1.alloc (.cells #[.string s] 9)) (fun j => by rw [World.cell?_alloc_new]; simp))
          have HLE : Hid ((tkV T1).length = T1.length * 1) := hide (by rw [tkV_len, Nat.mul_one])
          go_wp2_with (at_builtin; refine wpList_append_krow _ rfl (.tmp 39) (.tmp 41) 22 22 rfl 9 info _ 1 (by omega) Tryz.underlying22 (unhide HI).1 (unhide HI).2.1 rfl (unhide HI).2.2.1 rfl (unhide HW1).1.row (unhide HLE) _ _ 1 rfl (unhide HSR) (by rw [(unhide HI).2.2.2]; omega) (by omega) ?_)
          intro a2 c2 w2 g2 hK hG
          have H2 : Hid (LO wr w2 a2 c2 g2 (T1 ++ [s]) ∧ Fr (fun _ => False) wr w2) := hide (by
            obtain ⟨k1, k2⟩ := (unhide HW1).1.grewN (m := [s]) (unhide HW1).2.size hK hG
            exact ⟨k1, (unhide HW1).2.newer k2⟩)
          clear hK hG HW1 HSR HLE H1
          have HS := hide (((unhide HSS2).keep (unhide H2).2).src (cap - i))
          have HLE : Hid ((tkV (T1 ++ [s])).length = (T1.length + 1) * 1) := hide (by rw [tkV_len, Nat.mul_one, List.length_append]; rfl)
          go_wp2_with (at_builtin; refine wpList_append_krow _ rfl (.tmp 43) (.tmp 46) 22 22 rfl 9 info _ 1 (by omega) Tryz.underlying22 (unhide HI).1 (unhide HI).2.1 rfl (unhide HI).2.2.1 rfl (unhide H2).1.row (unhide HLE) _ _ T2.length rfl (unhide HS) (by rw [(unhide HI).2.2.2]; omega) (by omega) ?_)
          intro a3 c3 w3 g3 hK hG
          have H3 : Hid (LO wr w3 a3 c3 g3 (T1 ++ [s] ++ T2) ∧ Fr (fun _ => False) wr w3) := hide (by
            obtain ⟨k1, k2⟩ := (unhide H2).1.grewN (m := T2) (unhide H2).2.size hK hG
            exact ⟨k1, (unhide H2).2.newer k2⟩)
          clear hK hG HS HLE H2
          go_wp2
          go_ret
          exact ⟨a3, c3, g3, by rw [unhide hT1, List.length_append, List.length_append]; rfl, by rw [unhide hT1]; exact (unhide H3).1.later (unhide HW), (unhide H3).2, Or.inr (fun hc => (unhide H3).1.new hc)⟩
    · obtain rfl : i = l.length := by omega
      obtain ⟨q1, q2⟩ := unhide HQ (fun h => absurd h (by omega))
      have HE := hide (q2 (fun h => absurd h (by omega)))
      clear q1 q2 HQ HJ
      obtain ⟨T1, T2, hT1, hT2, hT3, ⟨f1, hf1, hS1⟩, ⟨f2, hf2, hS2⟩⟩ : ∃ T1 T2 : List ByteArray, Hid (putL l s = T1 ++ [s] ++ T2) ∧ T1.length ≤ 100000 ∧ T2.length ≤ 100000 ∧ (∃ bo, (∀ u : World, (Instr.slice 22 (.slice ao l.length cap) none (some (.int .i64 (l.length : Int))) none).run Tryz.prog u = .ok (.slice bo T1.length cap) u) ∧ SAt wr bo T1) ∧ (∃ bo, (∀ u : World, (Instr.slice 22 (.slice ao l.length cap) (some (.int .i64 (l.length : Int))) none none).run Tryz.prog u = .ok (.slice bo T2.length (cap - l.length)) u) ∧ SAt wr bo T2) :=
        ⟨l.take l.length, l.drop l.length, unhide HE, by rw [List.length_take]; omega, by rw [List.length_drop]; omega, ((unhide H).sat.cut (unhide H).len l.length (by omega)).1, ((unhide H).sat.cut (unhide H).len l.length (by omega)).2⟩
      clear HE
      have hA : Fr (fun _ => False) wr (wr.alloc (.cells #[] 9)) := (Fr.refl _ _).alloc _
      have HK : Hid (LO wr (wr.alloc (.cells #[] 9)) (some ⟨wr.heap.size, 0, none⟩) 0 0 []) := hide ⟨⟨Nat.zero_le _, Nat.zero_le _, fun h => absurd h (by omega), fun j hj => absurd hj (by omega), fun j hj => absurd hj (by simp [tkV]), fun u hu => by simp [tkV] at hu⟩, fun h => absurd h (by omega)⟩
      have HS := hide ((hS1.keep hA).src cap)
      have HA := hide hA
      have HSS2 := hide hS2
      clear hA hS1 hS2
      go_wp2_with (at_builtin; refine wpList_append_krow _ rfl (.tmp 34) (.tmp 37) 22 22 rfl 9 info _ 1 (by omega) Tryz.underlying22 (unhide HI).1 (unhide HI).2.1 rfl (unhide HI).2.2.1 rfl (unhide HK).row rfl _ _ T1.length rfl (unhide HS) (by rw [(unhide HI).2.2.2]; omega) (by omega) ?_)
      intro a1 c1 w1 g1 hK hG
      have H1 : Hid (LO wr w1 a1 c1 g1 T1 ∧ Fr (fun _ => False) wr w1) := hide (by
        obtain ⟨k1, k2⟩ := (unhide HK).grewN (m := T1) (unhide HA).size hK hG
        exact ⟨k1, (unhide HA).newer k2⟩)
      clear hK hG HK HS HA
      have HW1 : Hid (LO wr (w1.alloc (.cells #[.string s] 9)) a1 c1 g1 T1 ∧ Fr (fun _ => False) wr (w1.alloc (.cells #[.string s] 9))) := hide ⟨(unhide H1).1.keep ((Fr.refl _ _).alloc _), (unhide H1).2.alloc _⟩
      have HSR := hide (src_one (P := Tryz.prog) w1 [.string s] 22 9 1 Tryz.underlying22 rfl (fun u hu => by simp only [List.mem_cons, List.not_mem_nil, or_false] at hu; subst hu; rfl) (W := w1.alloc (.cells #[.string s] 9)) (fun j => by rw [World.cell?_alloc_new]; simp))
      have HLE : Hid ((tkV T1).length = T1.length * 1) := hide (by rw [tkV_len, Nat.mul_one])
      go_wp2_with (at_builtin; refine wpList_append_krow _ rfl (.tmp 39) (.tmp 41) 22 22 rfl 9 info _ 1 (by omega) Tryz.underlying22 (unhide HI).1 (unhide HI).2.1 rfl (unhide HI).2.2.1 rfl (unhide HW1).1.row (unhide HLE) _ _ 1 rfl (unhide HSR) (by rw [(unhide HI).2.2.2]; omega) (by omega) ?_)
      intro a2 c2 w2 g2 hK hG
      have H2 : Hid (LO wr w2 a2 c2 g2 (T1 ++ [s]) ∧ Fr (fun _ => False) wr w2) := hide (by
        obtain ⟨k1, k2⟩ := (unhide HW1).1.grewN (m := [s]) (unhide HW1).2.size hK hG
        exact ⟨k1, (unhide HW1).2.newer k2⟩)
      clear hK hG HW1 HSR HLE H1
      have HS := hide (((unhide HSS2).keep (unhide H2).2).src (cap - l.length))
      have HLE : Hid ((tkV (T1 ++ [s])).length = (T1.length + 1) * 1) := hide (by rw [tkV_len, Nat.mul_one, List.length_append]; rfl)
      go_wp2_with (at_builtin; refine wpList_append_krow _ rfl (.tmp 43) (.tmp 46) 22 22 rfl 9 info _ 1 (by omega) Tryz.underlying22 (unhide HI).1 (unhide HI).2.1 rfl (unhide HI).2.2.1 rfl (unhide H2).1.row (unhide HLE) _ _ T2.length rfl (unhide HS) (by rw [(unhide HI).2.2.2]; omega) (by omega) ?_)
      intro a3 c3 w3 g3 hK hG
      have H3 : Hid (LO wr w3 a3 c3 g3 (T1 ++ [s] ++ T2) ∧ Fr (fun _ => False) wr w3) := hide (by
        obtain ⟨k1, k2⟩ := (unhide H2).1.grewN (m := T2) (unhide H2).2.size hK hG
        exact ⟨k1, (unhide H2).2.newer k2⟩)
      clear hK hG HS HLE H2
      go_wp2
      go_ret
      exact ⟨a3, c3, g3, by rw [unhide hT1, List.length_append, List.length_append]; rfl, by rw [unhide hT1]; exact (unhide H3).1.later (unhide HW), (unhide H3).2, Or.inr (fun hc => (unhide H3).1.new hc)⟩

theorem put_any (w0 w : World) (ao : Option Addr) (cap g : Nat) (l : List ByteArray) (s : ByteArray) (h : LO w0 w ao cap g l) (hw : w0.heap.size ≤ w.heap.size) (hl : l.length ≤ 100000) :
    Calls Tryz.prog 34 #[.slice ao l.length cap, .string s] w fun e w' => ∃ ao' cap' g', e = .returned (.slice ao' (putL l s).length cap') ∧ LO w0 w' ao' cap' g' (putL l s) ∧ Fr (fun _ => False) w w' :=
  (put_any2 w0 w ao cap g l s h hw hl).mono (fun _ _ ⟨ao', cap', g', e1, e2, e3, _⟩ => ⟨ao', cap', g', e1, e2, e3⟩)

end Go.Proofs.YtmhljehkodhggaaGreat

