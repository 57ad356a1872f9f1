import Derived.Test.YtmhljehkodhggaaGreatU9
import Derived.Laws.MakeOwn
/- The law's own: texts lent with a mark behind them, kept, spoilt. -/
namespace Go.Proofs.YtmhljehkodhggaaGreat
open Go.RowKit

def tMark : ByteArray := ⟨#[109, 97, 114, 107]⟩
def tSpoilt : ByteArray := ⟨#[115, 112, 111, 105, 108, 116]⟩
def tMore : ByteArray := ⟨#[109, 111, 114, 101]⟩

/-- A row of which so many cells may be written. -/
def Room (w : World) (g n : Nat) : Prop := ∀ j, j < n → (w.cell? ⟨g, j, none⟩).isSome = true ∧ w.frozen? ⟨g, j, none⟩ = false
theorem Room.set {w : World} {g n : Nat} (h : Room w g n) (i : Nat) (hi : i < n) (v : Value) : Room (w.setCell ⟨g, i, none⟩ v) g n := fun j hj => by
  obtain ⟨u, hu⟩ := Option.isSome_iff_exists.1 (h i hi).1
  refine ⟨?_, by rw [World.frozen?_setCell]; exact (h j hj).2⟩
  by_cases e : j = i
  · subst e
    rw [World.cell?_setCell_same _ _ _ hu]; rfl
  · rw [World.cell?_setCell_other _ _ _ _ (by intro t; injection t with t1 t2; exact e t2.symm)]
    exact (h j hj).1
theorem LO.room {w0 w : World} {ao : Option Addr} {cap g : Nat} {l : List ByteArray} (h : LO w0 w ao cap g l) : Room w g cap := fun j hj => h.row.room j (by omega)

set_option maxRecDepth 20000 in
theorem slice_upto (g n m cap : Nat) (h : n ≤ cap) (hc : 0 < cap) (u : World) : (Instr.slice 22 (.slice (some ⟨g, 0, none⟩) m cap) none (some (.int .i64 (n : Int))) none).run Tryz.prog u = .ok (.slice (some ⟨g, 0, none⟩) n cap) u := by
  rw [run_slice_h (P := Tryz.prog) (w := u) 22 (some ⟨g, 0, none⟩) m cap Tryz.underlying22 .i64 (n : Int) (by omega) (by omega)]
  have e : (.slice (some ⟨g, 0, none⟩) n cap : Value) = sliced (some ⟨g, 0, none⟩) 0 n cap 1 := by
    unfold sliced
    rw [if_neg (by omega)]
    simp [Addr.add_lit]
  rw [e]
  rfl

set_option maxHeartbeats 2000000 in
set_option maxRecDepth 20000 in
theorem lentS_any (w : World) (ao : Option Addr) (cap : Nat) (l : List ByteArray) (h : SAt w ao l) (hfit : (l.length + 200) * 16 ≤ 140737488355328) :
    Calls Tryz.prog 7 #[.slice ao l.length cap] w fun e w' => ∃ ai ci g, e = .returned (.slice ai l.length ci) ∧ LO w w' ai ci g (l ++ [tMark]) ∧ Fr (fun _ => False) w w' := by
  obtain ⟨info, hi, hzz⟩ := Option.map_eq_some_iff.1 Token_info
  simp only [Prod.mk.injEq] at hzz
  have HI := hide (And.intro hi hzz)
  have hmk := run_make (P := Tryz.prog) w 22 9 info (.string ⟨#[]⟩) Tryz.underlying22 hi hzz.1 .i64 .i64 0 ((l.length : Int) + 1) (by omega) (by omega) (by rw [hzz.2.2]; omega) (by omega)
  rw [hzz.2.1, show ((l.length : Int) + 1).toNat = l.length + 1 by omega, show (0 : Int).toNat = 0 from rfl, Nat.mul_one] at hmk
  obtain ⟨w1, Hw1⟩ : ∃ w1, Hid (w.alloc (.cells (madeCells (Value.string ⟨#[]⟩).cells (l.length + 1)) 9) = w1) := ⟨_, rfl⟩
  have hw1 : (Instr.makeSlice 22 (.int .i64 0) (.int .i64 ((l.length : Int) + 1))).run Tryz.prog w = .ok (.slice (some ⟨w.heap.size, 0, none⟩) 0 (l.length + 1)) w1 := by rw [← unhide Hw1]; exact hmk
  have HR1 : Hid (LO w w1 (some ⟨w.heap.size, 0, none⟩) (l.length + 1) w.heap.size [] ∧ Fr (fun _ => False) w w1) := hide (by
    rw [← unhide Hw1]
    refine ⟨⟨⟨Nat.zero_le _, by simp only [maxLen]; omega, fun _ => rfl, fun j hj => ⟨?_, World.frozen?_alloc_new _ _ _ _⟩, fun j hj => absurd hj (by simp [tkV]), fun u hu => by simp [tkV] at hu⟩, fun _ => Nat.le_refl _⟩, (Fr.refl _ _).alloc _⟩
    rw [World.cell?_alloc_new, Array.getElem?_eq_getElem (by rw [size_madeCells]; simpa [Value.cells] using hj)]
    rfl)
  have HSR := hide ((h.keep (unhide HR1).2).src cap)
  clear h hmk hi hzz Hw1
  obtain ⟨n, Hn⟩ : ∃ n, Hid (l.length = n) := ⟨_, rfl⟩
  rw [unhide Hn] at hfit hw1 HR1 HSR ⊢
  go_enter Tryz.func7, Tryz.ntmps7
  go_wp2_with (at_builtin; refine wpList_append_krow _ rfl (.tmp 7) (.tmp 8) 22 22 rfl 9 info _ 1 (by omega) Tryz.underlying22 (unhide HI).1 (unhide HI).2.1 rfl (unhide HI).2.2.1 rfl (unhide HR1).1.row rfl _ _ n rfl (unhide HSR) (by rw [(unhide HI).2.2.2]; omega) (by omega) ?_)
  intro a1 c1 w2 g1 hK hG
  have H1 : Hid (LO w w2 a1 c1 g1 l ∧ Fr (fun _ => False) w w2) := hide (by
    have hnew := (unhide HR1).1.new (by omega)
    refine ⟨⟨hK, fun hc => ?_⟩, ?_⟩
    · rcases hG with ⟨e1, _, _⟩ | ⟨e1, _, _⟩
      · omega
      · exact Nat.le_trans (unhide HR1).2.size e1
    · rcases hG with ⟨_, _, hf⟩ | ⟨_, _, hf⟩
      · exact (unhide HR1).2.trans hf (fun i hi t => by omega)
      · exact (unhide HR1).2.trans hf (fun _ _ t => t))
  clear hK hG HR1 HSR hw1
  have HW2 : Hid (LO w (w2.alloc (.cells #[.string tMark] 9)) a1 c1 g1 l ∧ Fr (fun _ => False) w (w2.alloc (.cells #[.string tMark] 9))) := hide ⟨(unhide H1).1.keep ((Fr.refl _ _).alloc _), (unhide H1).2.alloc _⟩
  have HSR := hide (src_one (P := Tryz.prog) w2 [.string tMark] 22 9 1 Tryz.underlying22 rfl (fun u hu => by simp only [List.mem_cons, List.not_mem_nil, or_false] at hu; subst hu; rfl) (W := w2.alloc (.cells #[.string tMark] 9)) (fun j => by rw [World.cell?_alloc_new]; simp))
  have HLE : Hid ((tkV l).length = n * 1) := hide (by rw [tkV_len, Nat.mul_one]; exact unhide Hn)
  go_wp2_with (at_builtin; refine wpList_append_krow _ rfl (.tmp 10) (.tmp 11) 22 22 rfl 9 info _ 1 (by omega) Tryz.underlying22 (unhide HI).1 (unhide HI).2.1 rfl (unhide HI).2.2.1 rfl (unhide HW2).1.row (unhide HLE) _ _ 1 rfl (unhide HSR) (by rw [(unhide HI).2.2.2]; omega) (by omega) ?_)
  intro a2 c2 w3 g2 hK hG
  have H2 : Hid (LO w w3 a2 c2 g2 (l ++ [tMark]) ∧ Fr (fun _ => False) w w3) := hide (by
    refine ⟨⟨by rw [tkV_app]; exact hK, fun hc => ?_⟩, ?_⟩
    · rcases hG with ⟨e1, e2, _⟩ | ⟨e1, _, _⟩
      · subst e1 e2; exact (unhide HW2).1.new hc
      · exact Nat.le_trans (unhide HW2).2.size e1
    · rcases hG with ⟨_, _, hf⟩ | ⟨_, _, hf⟩
      · exact (unhide HW2).2.trans hf (fun i hi t => by have := (unhide HW2).1.new t.2; omega)
      · exact (unhide HW2).2.trans hf (fun _ _ t => t))
  have hcp : n + 1 ≤ c2 := by have := (unhide H2).1.len; rw [List.length_append, List.length_singleton, unhide Hn] at this; exact this
  have had := (unhide H2).1.row.ad (by omega)
  subst had
  have hsl := slice_upto g2 n (n + 1) c2 (by omega) (by omega)
  clear hK hG HW2 HSR HLE H1
  go_wp2
  go_ret
  exact ⟨_, c2, g2, rfl, (unhide H2).1, (unhide H2).2⟩

set_option maxHeartbeats 2000000 in
set_option maxRecDepth 20000 in
theorem keptS_any (w0 w : World) (ai : Option Addr) (ci g : Nat) (l : List ByteArray) (hl : LO w0 w ai ci g (l ++ [tMark])) (ao : Option Addr) (cap : Nat) (h : SAt w ao l) (hfit : (l.length + 200) * 16 ≤ 140737488355328) :
    Calls Tryz.prog 12 #[.slice ai l.length ci, .slice ao l.length cap] w fun e w' => e = .returned (.bool true) ∧ Fr (fun k => k = g) w w' := by
  have hcp : l.length + 1 ≤ ci := by have := hl.len; rw [List.length_append, List.length_singleton] at this; exact this
  have had := hl.row.ad (by omega)
  subst had
  have HS := hide (sameT_is w l (some ⟨g, 0, none⟩) ci ao cap hl.front.sat h (by omega))
  have HMK : Hid (w.cell? ⟨g, l.length, none⟩ = some (.string tMark)) := hide (by
    obtain ⟨b, off, e, hc⟩ := hl.sat.at (i := l.length) (by simp)
    injection e with e
    injection e with e1 e2 _
    subst e1 e2
    rw [Nat.zero_add] at hc
    rw [hc]
    simp)
  have HRM : Hid (Room w g ci) := hide hl.room
  have HLT : Hid (g < w.heap.size) := hide (hl.lt (by omega))
  have hcm : ci ≤ 9223372036854775807 := by have := hl.row.max; simp only [maxLen] at this; omega
  clear hl h
  obtain ⟨n, Hn⟩ : ∃ n, Hid (l.length = n) := ⟨_, rfl⟩
  rw [unhide Hn] at hfit HS HMK hcp ⊢
  have hsl := slice_upto g (n + 1) n ci hcp (by omega)
  go_enter Tryz.func12, Tryz.ntmps12
  go_wp2_with fail
  refine (unhide HS).mono ?_
  clear HS
  rintro e w1 ⟨rfl, hF⟩
  have c0 : w1.cell? ⟨g, n, none⟩ = some (.string tMark) := (hF.cell (a := ⟨g, n, none⟩) (unhide HLT) (fun t => t)).trans (unhide HMK)
  have HR1 : Hid (Room w1 g ci ∧ Fr (fun k => k = g) w w1) := hide ⟨fun j hj => by rw [hF.cell (a := ⟨g, j, none⟩) (unhide HLT) (fun t => t), hF.frozen (a := ⟨g, j, none⟩) (unhide HLT) (fun t => t)]; exact unhide HRM j hj, hF.mono (fun _ _ t => t.elim)⟩
  have hmm : (tMark.toList == tMark.toList) = true := by simp
  clear hF HMK HRM
  go_wp2
  go_loopw [8] (fun iv wr => ∃ i : Nat, i ≤ n + 1 ∧ iv = .int .i64 i ∧ Hid (Room wr g ci ∧ Fr (fun k => k = g) w wr)) (fun iv _ => n + 1 - (intOf iv).toNat)
  case atStart => exact ⟨0, Nat.zero_le _, rfl, unhide HR1⟩
  case round =>
    obtain ⟨i, hi, rfl, HI⟩ := hrel
    clear c0 HR1
    by_cases hlt : i < n + 1
    · obtain ⟨v, hv⟩ := Option.isSome_iff_exists.1 ((unhide HI).1 i (by omega)).1
      have fi := ((unhide HI).1 i (by omega)).2
      have HN : Hid (Room (wr.setCell ⟨g, i, none⟩ (.string tSpoilt)) g ci ∧ Fr (fun k => k = g) w (wr.setCell ⟨g, i, none⟩ (.string tSpoilt))) := hide ⟨(unhide HI).1.set i (by omega) _, (unhide HI).2.setCell (p := ⟨g, i, none⟩) (fun _ => rfl) _⟩
      go_wp2
      exact ⟨⟨i + 1, by omega, by go_num, unhide HN⟩, by simp [intOf]; omega⟩
    · obtain rfl : i = n + 1 := by omega
      have HFF := hide (unhide HI).2
      clear HI
      go_wp2
      go_ret
      exact ⟨by first | rfl | (simp; unfold tMark; rw [ByteArray.toList_eq]), unhide HFF⟩

set_option maxHeartbeats 2000000 in
set_option maxRecDepth 20000 in
theorem spoilS_any (w0 w : World) (ao : Option Addr) (cap g : Nat) (l : List ByteArray) (hl : LO w0 w ao cap g l) (hfit : l.length ≤ 100000) :
    Calls Tryz.prog 15 #[.slice ao l.length cap] w fun e w' => e = .returned (.tuple #[]) ∧ Fr (fun k => k = g ∧ 0 < cap) w w' := by
  obtain ⟨info, hi, hzz⟩ := Option.map_eq_some_iff.1 Token_info
  simp only [Prod.mk.injEq] at hzz
  have HIF := hide (And.intro hi hzz)
  have HL := hide hl
  have hcl := hl.len
  clear hi hzz hl
  go_enter Tryz.func15, Tryz.ntmps15
  go_wp2
  go_loopw [2] (fun iv wr => ∃ i : Nat, i ≤ l.length ∧ iv = .int .i64 i ∧ Hid (∃ m : List ByteArray, m.length = l.length ∧ LO w0 wr ao cap g m ∧ Fr (fun k => k = g ∧ 0 < cap) w wr)) (fun iv _ => l.length - (intOf iv).toNat)
  case atStart => exact ⟨0, Nat.zero_le _, rfl, l, rfl, unhide HL, Fr.refl _ _⟩
  case round =>
    obtain ⟨i, hi, rfl, HI⟩ := hrel
    clear HL
    by_cases hlt : i < l.length
    · obtain ⟨m, hm, h1, h2⟩ := unhide HI
      have had := h1.row.ad (by omega)
      subst had
      obtain ⟨v, hv⟩ := Option.isSome_iff_exists.1 (h1.room i (by omega)).1
      have fi := (h1.room i (by omega)).2
      have HN : Hid (∃ m' : List ByteArray, m'.length = l.length ∧ LO w0 (wr.setCell ⟨g, i, none⟩ (.string tSpoilt)) (some ⟨g, 0, none⟩) cap g m' ∧ Fr (fun k => k = g ∧ 0 < cap) w (wr.setCell ⟨g, i, none⟩ (.string tSpoilt))) := hide (by
        refine ⟨m.set i tSpoilt, by rw [List.length_set]; exact hm, ⟨⟨?_, h1.row.max, h1.row.ad, fun j hj => (h1.room.set i (by omega) _) j (by omega), fun j hj => ?_, tkV_oneU _⟩, h1.new⟩, h2.setCell (p := ⟨g, i, none⟩) (fun _ => ⟨rfl, by omega⟩) _⟩
        · rw [tkV_len, List.length_set, hm]; omega
        · have hj2 : j < (m.set i tSpoilt).length := by rw [tkV_len] at hj; exact hj
          rw [tkV_at _ hj2]
          have hj3 : j < m.length := by rw [List.length_set] at hj2; exact hj2
          by_cases e : j = i
          · subst e
            rw [World.cell?_setCell_same _ _ _ hv, List.getElem_set_self]
          · rw [World.cell?_setCell_other _ _ _ _ (by intro t; injection t with t1 t2; exact e t2.symm), h1.row.cells j (by rw [tkV_len]; exact hj3), tkV_at _ hj3, List.getElem_set_ne (fun t => e t.symm)])
      clear HI h1 h2 hm
      go_wp2
      exact ⟨⟨i + 1, by omega, by go_num, unhide HN⟩, by simp [intOf]; omega⟩
    · obtain rfl : i = l.length := by omega
      obtain ⟨m, hm, h1, h2⟩ := unhide HI
      have HW : Hid (LO w0 (wr.alloc (.cells #[.string tMore] 9)) ao cap g m ∧ Fr (fun k => k = g ∧ 0 < cap) w (wr.alloc (.cells #[.string tMore] 9))) := hide ⟨h1.keep ((Fr.refl _ _).alloc _), h2.alloc _⟩
      have HSR := hide (src_one (P := Tryz.prog) wr [.string tMore] 22 9 1 Tryz.underlying22 rfl (fun u hu => by simp only [List.mem_cons, List.not_mem_nil, or_false] at hu; subst hu; rfl) (W := wr.alloc (.cells #[.string tMore] 9)) (fun j => by rw [World.cell?_alloc_new]; simp))
      have HLE : Hid ((tkV m).length = l.length * 1) := hide (by rw [tkV_len, Nat.mul_one]; exact hm)
      clear HI h1 h2 hm
      generalize l.length = n at *
      go_wp2_with (at_builtin; refine wpList_append_krow _ rfl (.tmp 12) (.tmp 13) 22 22 rfl 9 info _ 1 (by omega) Tryz.underlying22 (unhide HIF).1 (unhide HIF).2.1 rfl (unhide HIF).2.2.1 rfl (unhide HW).1.row (unhide HLE) _ _ 1 rfl (unhide HSR) (by rw [(unhide HIF).2.2.2]; omega) (by omega) ?_)
      intro a2 c2 w3 g2 hK hG
      have HFF : Hid (Fr (fun k => k = g ∧ 0 < cap) w w3) := hide (by
        rcases hG with ⟨_, _, hf⟩ | ⟨_, _, hf⟩
        · exact (unhide HW).2.trans hf (fun _ _ t => t)
        · exact (unhide HW).2.trans hf (fun _ _ t => t.elim))
      clear hK hG HW HSR HLE
      go_wp2
      go_end0
      exact ⟨rfl, unhide HFF⟩

end Go.Proofs.YtmhljehkodhggaaGreat

