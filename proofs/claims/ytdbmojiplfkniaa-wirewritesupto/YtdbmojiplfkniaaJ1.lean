/- The walk of the law WireWrites. -/
import Derived.Test.YtdbmojiplfkniaaJ0
import Derived.Test.YtdbmojiplfkniaaP1
namespace Go.Proofs.Ytdbmojiplfkniaa
open Go.RowKit

/-- The text of a writer's bytes, and its word on them. -/
def strOf (s : Option (List UInt8)) : ByteArray := ⟨(s.getD []).toArray⟩
def codeOf (s : Option (List UInt8)) : Int := if s.isSome then 0 else 1

/-- What Bytes answers, of either writer. -/
def Told (w : World) (s : Option (List UInt8)) (e : Ending) (w' : World) : Prop := ∃ ao n cap gb, e = .returned (.tuple #[.slice ao n cap, .int .i64 (codeOf s)]) ∧ Own w' ⟨ao, n, cap, gb⟩ ∧ (0 < cap → w.heap.size ≤ gb) ∧ Fr (fun _ => False) w w' ∧ n + 9 ≤ 140737488355328 ∧
  ∀ w'', Fr (fun _ => False) w' w'' → (convert 27 9 (.slice ao n cap)).run Try.prog w'' = .ok (.string (strOf s)) w''

theorem told_ok {w : World} {bs : List UInt8} {e : Ending} {w' : World} (hb : bs.length + 9 ≤ 140737488355328) (h : Bytesd w bs e w') : Told w (some bs) e w' := by
  obtain ⟨v, g, rfl, hrow, hF, hg⟩ := h
  obtain ⟨ao, cap, rfl, _⟩ := hrow.shape
  exact ⟨ao, bs.length, cap, g, rfl, hrow.own, fun _ => hg, hF, hb, fun w'' hF2 => conv_later hrow hF2⟩

theorem told_bad {w : World} {e : Ending} {w' : World} (h : e = .returned (.tuple #[.slice none 0 0, .int .i64 1]) ∧ w = w') : Told w none e w' := by
  obtain ⟨rfl, rfl⟩ := h
  exact ⟨none, 0, 0, 0, rfl, ⟨[], rfl, VRow.nil w 0⟩, fun h => absurd h (by omega), Fr.refl _ _, by omega, fun w'' _ => conv_own (Row.nil w'' 0)⟩

theorem wtold {w : World} {p g : Nat} {s : Option (List UInt8)} (h : WSt w p g s) (hb : ∀ bs, s = some bs → bs.length + 9 ≤ 140737488355328) : Calls Try.prog 13 #[.pointer (some ⟨p, 0, none⟩)] w (Told w s) := by
  cases s with
  | some bs => exact (bytes_ok h (by have := hb bs rfl; omega)).mono fun e w' hh => told_ok (hb bs rfl) hh
  | none => exact (bytes_bad h).mono fun e w' hh => told_bad hh

theorem ytold {w : World} {p g : Nat} {s : Option (List UInt8)} (h : YSt w p g s) (hb : ∀ bs, s = some bs → bs.length + 9 ≤ 140737488355328) : Calls Try.prog 14 #[.pointer (some ⟨p, 0, none⟩)] w (Told w s) := by
  cases s with
  | some bs => exact (ybytes_ok h (by have := hb bs rfl; omega)).mono fun e w' hh => told_ok (hb bs rfl) hh
  | none => exact (ybytes_bad h.1).mono fun e w' hh => told_bad hh

theorem newW2 {w : World} (t : TypeId) : WAt (w.alloc (.cells #[.slice none 0 0, .bool false] t)) w.heap.size w.heap.size [] :=
  ⟨⟨none, 0, by simp, fun h => absurd h (by omega), Row.nil _ _⟩, by simp, by simp, by simp, by simp⟩

theorem src_row (w : World) (a : Value) (ha : a.oneCell' = true) : Src Try.prog 1 30 (.slice (some ⟨w.heap.size, 0, none⟩) 1 1) 1 [a] (w.alloc (.cells #[a] 27)) := by
  refine Src.ofSlice _ Try.underlying30 ⟨w.heap.size, 0, none⟩ 1 1 [a] rfl (fun j u hj => ?_) (fun u hu => ?_)
  · match j, hj with
    | 0, hj =>
      cases hj
      rw [Addr.add_lit, World.cell?_alloc_new]
      rfl
    | j + 1, hj => simp at hj
  · cases List.mem_singleton.1 hu
    exact ha

theorem fold_small {ps : List Pc} (hbd : ps.length ≤ 1048576) (n : Nat) {bs : List UInt8} (h : fold (ps.take n) = some bs) : bs.length ≤ 68720525312 := by
  have h1 := fold_le _ bs h
  rw [List.length_take] at h1
  have h2 : 65537 * min n ps.length ≤ 65537 * 1048576 := Nat.mul_le_mul_left _ (by omega)
  omega

theorem fold_next {ps : List Pc} {n : Nat} (h : n < ps.length) : fold (ps.take (n + 1)) = putW (fold (ps.take n)) ps[n] := by
  rw [List.take_succ_eq_append_getElem h, fold_snoc]

set_option maxHeartbeats 4000000 in
set_option maxRecDepth 100000 in
theorem writes_walk (w : World) (lo : Option Addr) (lc : Nat) (ps : List Pc) (hL : LAt w lo ps) (hbd : ps.length ≤ 1048576) (hsz : ∀ q ∈ ps, q.s.size ≤ 1048576) :
    Calls Try.prog 3 #[.slice lo ps.length lc] w fun e w' => e = .returned (.bool true) ∧ Fr (fun _ => False) w w' := by
  obtain ⟨i2, hi2, hz20, hz21, hz22⟩ := info_parts Try.info27
  have HI := hide hi2
  have HL := hide hL
  have HSZ := hide hsz
  clear hL hsz hi2
  go_enter Try.func3, Try.ntmps3
  go_wp2_with fail
  refine (awake_any _).mono ?_
  rintro e w1 ⟨rfl, hF1⟩
  have HF1 := hide hF1
  clear hF1
  go_wp2_with fail
  refine (newwriter_any _).mono ?_
  rintro e w2 ⟨rfl, rfl⟩
  have hW0 : WI w ((w1.alloc (.cells #[.slice none 0 0, .bool false] 68)).alloc (.cells #[.slice none 0 0, .bool false] 29)) w1.heap.size w1.heap.size (w1.alloc (.cells #[.slice none 0 0, .bool false] 68)).heap.size (w1.alloc (.cells #[.slice none 0 0, .bool false] 68)).heap.size (some []) (some []) none 0 0 0 (fun _ => ⟨none, 0, 0, 0⟩) := by
    have e1 : (w1.alloc (.cells #[.slice none 0 0, .bool false] 68)).heap.size = w1.heap.size + 1 := by simp
    have s1 := (unhide HF1).size
    exact ⟨WAt.alloc newW _, newW2 29, ((unhide HF1).alloc _).alloc _, ⟨s1, s1, by omega, by omega⟩, ⟨by simp; omega, by simp; omega⟩, ⟨by omega, by omega, by omega, by omega⟩, by simpa [vals] using VRow.nil _ 0, fun j hj => absurd hj (by omega), fun j hj => absurd hj (by omega), fun h => absurd h (by omega), fun j hj => absurd hj (by omega), fun j k hj => absurd hj (by omega)⟩
  have HW := hide hW0
  clear hW0 HF1
  have e1 : (w1.alloc (.cells #[.slice none 0 0, .bool false] 68)).heap.size = w1.heap.size + 1 := by simp
  rw [e1] at HW
  clear e1
  go_wp2
  generalize ((w1.alloc (.cells #[.slice none 0 0, .bool false] 68)).alloc (.cells #[.slice none 0 0, .bool false] 29)) = w3 at *
  obtain ⟨xp, hxp⟩ : ∃ x, w1.heap.size + 1 = x := ⟨_, rfl⟩
  obtain ⟨p, hp⟩ : ∃ x, w1.heap.size = x := ⟨_, rfl⟩
  rw [hxp, hp] at HW ⊢
  clear hxp hp
  go_loopw [6, 7] (fun av iv wr => ∃ n : Nat, n ≤ ps.length ∧ iv = .int .i64 n ∧ ∃ ao acap ag m g xg ds, av = .slice ao m acap ∧ m ≤ 20 ∧ Hid (WI w wr p g xp xg (fold (ps.take n)) (fold (ps.take n)) ao acap ag m ds)) (fun _ iv _ => ps.length - (intOf iv).toNat)
  case atStart => exact ⟨0, Nat.zero_le _, rfl, none, 0, 0, 0, p, xp, _, rfl, by omega, unhide HW⟩
  case round =>
    obtain ⟨n, hn, rfl, ao, acap, ag, m, g, xg, ds, rfl, hm, HS⟩ := hrel
    by_cases hlt : n < ps.length
    · obtain ⟨b, off, rfl⟩ : ∃ b off, lo = some ⟨b, off, none⟩ := by
        obtain ⟨b, off, e, _⟩ := (unhide HL).1 (by omega)
        exact ⟨b, off, e⟩
      obtain ⟨q0, q1, q2, q3, q4, q5⟩ := (unhide HL).cells (unhide HS).fr n hlt
      have hqn := (unhide HL).2.2 ps[n] (List.getElem_mem hlt)
      have hqs := unhide HSZ ps[n] (List.getElem_mem hlt)
      have hnx0 := fold_next hlt
      obtain ⟨q, Hq⟩ : ∃ q, Hid (ps[n] = q) := ⟨ps[n], hide rfl⟩
      rw [unhide Hq] at q0 q1 q2 q3 q4 q5 hqn hqs hnx0
      obtain ⟨s, hs⟩ : ∃ s, fold (ps.take n) = s := ⟨_, rfl⟩
      have hsm : ∀ bs, s = some bs → bs.length ≤ 68720525312 := fun bs h => fold_small hbd n (hs.trans h)
      rw [hs] at HS hnx0
      have hsm2 : ∀ bs, putW s q = some bs → bs.length ≤ 68720525312 := fun bs h => fold_small hbd (n + 1) (hnx0.trans h)
      have HNX := hide hnx0
      have HSM := hide (And.intro hsm hsm2)
      clear hs hsm hsm2 hnx0
      go_wp2_with fail
      refine (lpf_any (unhide HS).wst q (fun bs h => ⟨by have := (unhide HSM).1 bs h; omega, fun _ h2 => by have := (unhide HSM).1 bs h; omega⟩) hqn).mono ?_
      rintro e w4 ⟨rfl, hP⟩
      obtain ⟨g1, hW1⟩ := (unhide HS).put hP
      have HW1 := hide hW1
      clear hP hW1 q0 q1 q2 q3 q4 q5
      obtain ⟨q0, q1, q2, q3, q4, q5⟩ := (unhide HL).cells (unhide HW1).fr n hlt
      rw [unhide Hq] at q0 q1 q2 q3 q4 q5
      go_wp2_with fail
      refine (model_any (unhide HW1).yst q (fun bs h => ⟨by have := (unhide HSM).1 bs h; omega, fun _ h2 => by have := (unhide HSM).1 bs h; omega⟩) hqn hqs).mono ?_
      rintro e w5 ⟨rfl, hP⟩
      obtain ⟨xg1, hW2⟩ := (unhide HW1).model hP
      have HW2 := hide hW2
      clear hP hW2 q0 q1 q2 q3 q4 q5 HW1 HS
      go_wp2_with fail
      refine (wtold (unhide HW2).wst (fun bs h => by have := (unhide HSM).2 bs h; omega)).mono ?_
      rintro e w6 ⟨bo, bn, bc, bg, rfl, hown, hnew, hF6, hfit, hconv⟩
      have HW3 := hide ((unhide HW2).later hF6)
      have HB := hide (And.intro hown (And.intro hnew (And.intro hfit hconv)))
      clear hown hnew hF6 hfit hconv
      go_wp2_with fail
      refine (ytold (unhide HW3).yst (fun bs h => by have := (unhide HSM).2 bs h; omega)).mono ?_
      rintro e w7 ⟨yo, yn, yc, yg, rfl, _, _, hF7, _, hconv2⟩
      have c1 := (unhide HB).2.2.2 w7 hF7
      have c2 := hconv2 w7 (Fr.refl _ _)
      have HW4 := hide ((unhide HW3).later hF7)
      have HO := hide ((unhide HB).1.stay (fun hc => hF7.block _ ((unhide HB).1.lt hc) (fun t => t)))
      clear hF7 hconv2 HW3
      generalize strOf (putW s q) = S at *
      generalize codeOf (putW s q) = C at *
      by_cases hm20 : m < 20
      · have hd : decide ((m : Int) < 20) = true := decide_eq_true (by omega)
        go_wp2_with (at_builtin; refine wpList_append_vrow _ rfl (.tmp 68) (.tmp 70) 30 30 rfl 27 i2 (.slice none 0 0) Try.underlying30 (unhide HI) hz20 rfl hz21 (ao := ao) (cap := acap) (g := ag) (n := m) (vs := vals ds m) rfl ((unhide HW4).arow.stay (fun hc => Below.heap_alloc _ _ _ ((unhide HW4).arow.lt hc))) (vals_length ds m) _ [.slice bo bn bc] 1 rfl rfl (src_row w7 _ rfl) (by rw [hz22]; omega) (by omega) ?_)
        intro ao' acap' w8 ag' hrow hgr
        have hA := WI.app (unhide HW2) (unhide HW4) (d := ⟨bo, bn, bc, bg⟩) (unhide HO) (unhide HB).2.1 (unhide HB).2.2.1 _ hrow hgr
        have HN := hide hA
        clear hrow hgr hA
        go_wp2
        exact ⟨⟨n + 1, by omega, by go_num, ao', acap', ag', m + 1, g1, xg1, _, rfl, by omega, by rw [unhide HNX]; exact unhide HN⟩, by simp [intOf]; omega⟩
      · have hd : decide ((m : Int) < 20) = false := decide_eq_false (by omega)
        go_wp2
        exact ⟨⟨n + 1, by omega, by go_num, ao, acap, ag, m, g1, xg1, ds, rfl, by omega, by rw [unhide HNX]; exact unhide HW4⟩, by simp [intOf]; omega⟩
    · have hsm : ∀ bs, fold (ps.take n) = some bs → bs.length ≤ 68720525312 := fun bs h => fold_small hbd n h
      have HSM := hide hsm
      clear hsm
      generalize fold (ps.take n) = s at *
      go_wp2_with fail
      refine (owned_any wr ao ag m acap (unhide HS).addr ds ((unhide HS).handed hm)).mono ?_
      rintro e w4 ⟨rfl, hF4⟩
      obtain ⟨k1, k2, k3⟩ := (unhide HS).behind hF4
      have HK := hide (And.intro k1 (And.intro k2 k3))
      clear hF4 k1 k2 k3 HS
      go_wp2_with fail
      refine (wtold (unhide HK).1 (fun bs h => by have := unhide HSM bs h; omega)).mono ?_
      rintro e w6 ⟨bo, bn, bc, bg, rfl, _, _, hF6, _, hconv⟩
      have HC := hide (And.intro hF6 hconv)
      clear hF6 hconv
      go_wp2_with fail
      refine (ytold ((unhide HK).2.1.frame (unhide HC).1 (fun t => t) (fun t => t)) (fun bs h => by have := unhide HSM bs h; omega)).mono ?_
      rintro e w7 ⟨yo, yn, yc, yg, rfl, _, _, hF7, _, hconv2⟩
      have c1 := (unhide HC).2 w7 hF7
      have c2 := hconv2 w7 (Fr.refl _ _)
      have HF := hide (((unhide HK).2.2.trans (unhide HC).1 (fun _ _ t => t)).trans hF7 (fun _ _ t => t))
      clear hF7 hconv2 HC HK
      generalize strOf s = S at *
      generalize codeOf s = C at *
      go_wp2
      go_ret
      exact ⟨rfl, unhide HF⟩

end Go.Proofs.Ytdbmojiplfkniaa
