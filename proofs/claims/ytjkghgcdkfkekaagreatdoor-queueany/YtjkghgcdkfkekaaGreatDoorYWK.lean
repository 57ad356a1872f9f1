import Derived.Test.YtjkghgcdkfkekaaGreatDoorYWJ
import Derived.OwnWalk
/- Contract: Open. -/
namespace Go.Proofs.YtjkghgcdkfkekaaGreatDoor
open Go.RowKit

theorem strm_count (rs : List Bs) (k : Nat) (h : k ≤ rs.length) : 12 * k ≤ (strm (rs.take k)).length := by
  induction k with
  | zero => omega
  | succ k ih =>
    have := ih (by omega)
    have he := pos_end rs k (by omega)
    have hp := pos_ge rs k
    omega

/-- How many writes records take that fit. -/
theorem nputs_hlf (rs : List Bs) (H : Nat) (h : (strm rs).length ≤ 504 * H) : nputs rs rs.length ≤ 90 * H := by
  have h1 := nputs_bound rs rs.length (Nat.le_refl _)
  have h2 := strm_count rs rs.length (Nat.le_refl _)
  rw [List.take_length] at h1 h2
  omega

/-- What Open makes of a disk with a head that may go on. -/
def OpenPost (w : World) (R : Nat → Nat) (p b : Nat) (d : Dk) (G0 h0 a0 : Nat) (e : Ending) (w' : World) : Prop :=
  ∃ (l : List Bs) (G : Nat) (D : Dk × Bool) (R' : Nat → Nat), (G0 = 0 → l = []) ∧ (0 < G0 → IsFound d.look (2 + h0 * hlf d.many) (hlf d.many) G0 l) ∧ G0 < G ∧ G ≤ G0 + 1 + hlf d.many ∧ (∀ i, i < hlf d.many → mrk (d.look (2 + (1 - h0) * hlf d.many + i)) ≠ G) ∧
    D = d.run (anewActs (2 + (1 - h0) * hlf d.many) G l (1 - a0) (hsec G (1 - h0))) ∧ DAt w' R' b D.1 ∧ UpR w R R' ∧ Fr (DS R) w w' ∧
      (D.2 = true → e = .returned (.tuple #[.pointer none, .slice none 0 0, errV 5])) ∧
      (D.2 = false → ∃ lg cs' ro rc, e = .returned (.tuple #[.pointer (some ⟨lg, 0, none⟩), .slice ro l.length rc, .nilIface]) ∧ w.heap.size ≤ lg ∧ LogAt w' R' lg cs' p (2 + (1 - h0) * hlf d.many) (hlf d.many) G l 1 ∧ RecsP (fun k => w.heap.size ≤ k ∧ R' k = 0) w' ro rc l)

set_option maxHeartbeats 2000000 in
set_option maxRecDepth 20000 in
theorem open_any (w : World) (R : Nat → Nat) (p b : Nat) (d : Dk) (hT : TabR w R) (hk : Dsk w R p b d.many) (hD : DAt w R b d) (hup : d.down = false) (hcnt : d.cnt + d.wait.length + 180 * hlf d.many + 600000 < 576460752303423488 ∧ d.wait.length + 180 * hlf d.many + 600000 < 2199023255552) (h4 : 4 ≤ d.many) (hm : d.many ≤ 1048576)
    (G0 h0 a0 : Nat) (hho : hold d.look = (G0, h0, a0)) (hG : G0 ≤ 140737488355328) :
    Calls Tryz.prog 10 #[.pointer (some ⟨p, 0, none⟩)] w (OpenPost w R p b d G0 h0 a0) := by
  have hh := hold_bd d.look
  rw [hho] at hh
  obtain ⟨hh0, hh1, hh2⟩ := hh
  have hh1 : h0 ≤ 1 := hh1
  have SE := sectors_any w R p b d.many hk
  have MA := mayh_any w (d.many : Int)
  rw [mayB_many _ h4 hm] at MA
  have HO := holding_any w hT.1 R p b d hk hD hup (by omega)
  simp only [hho] at HO
  have hgI : ¬ (140737488355328 : Int) < (G0 : Int) := by omega
  have HRC : ∀ u, Fr (fun _ => False) w u → Calls Tryz.prog 41 #[.agg #[.int .i64 (G0 : Int), .int .i64 (h0 : Int)], .pointer (some ⟨p, 0, none⟩)] u fun e w' => ∃ l ro rc, e = .returned (.tuple #[.slice ro (List.length l) rc, .nilIface]) ∧ Hid ((G0 = 0 → l = []) ∧ (0 < G0 → IsFound d.look (2 + h0 * hlf d.many) (hlf d.many) G0 l) ∧ RecsP (fun k => u.heap.size ≤ k) w' ro rc l ∧ Fr (fun _ => False) u w') := fun u hF => by
    refine (records_any u (hT.frame hF (fun _ t => t.elim) (UpR.refl _ _)).1 R p b d (hk.frame hF (fun _ _ t => t) (UpR.refl _ _)) (hD.frame hF (fun _ t => t.elim)) hup h4 hm G0 h0 (by omega) hh1).mono ?_
    rintro e w' ⟨l, ro, rc, q1, q2, q3, q4, q5⟩
    exact ⟨l, ro, rc, q1, hide ⟨q2, q3, q4, q5⟩⟩
  have HH := hide (And.intro hT (And.intro hk (And.intro hD (And.intro hup (And.intro hcnt (And.intro h4 (And.intro hm (And.intro hho (And.intro SE (And.intro MA (And.intro HO HRC)))))))))))
  clear hT hk hD hup hcnt h4 hm hho SE MA HO HRC hh0 hh1 hh2 hG
  go_enter Tryz.func10, Tryz.ntmps10
  go_wp2_with fail
  refine (unhide HH).2.2.2.2.2.2.2.2.1.mono ?_
  rintro e w1 ⟨rfl, rfl⟩
  go_wp2_with fail
  refine (unhide HH).2.2.2.2.2.2.2.2.2.1.mono ?_
  rintro e w1 ⟨rfl, rfl⟩
  go_wp2_with fail
  refine (unhide HH).2.2.2.2.2.2.2.2.2.2.1.mono ?_
  rintro e w2 ⟨rfl, hF2⟩
  have HF2 := hide hF2
  clear hF2
  go_wp2_with fail
  refine ((unhide HH).2.2.2.2.2.2.2.2.2.2.2 _ ((unhide HF2).alloc _)).mono ?_
  rintro e w3 ⟨l, ro, rc, rfl, HL⟩
  have HRW : Hid (Fr (fun _ => False) w1 (w3.alloc (.cells #[.pointer (some ⟨p, 0, none⟩), .pointer none, .int .i64 0, .int .i64 0, .int .i64 0, .int .i64 0, .int .i64 0, .slice none 0 0, .int .i64 0, .bool false] 100)) ∧ w1.heap.size ≤ w3.heap.size ∧ UpR w3 R (upd R w3.heap.size 6) ∧ RecsP (fun k => w1.heap.size ≤ k ∧ k < w3.heap.size ∧ upd R w3.heap.size 6 k = 0) (w3.alloc (.cells #[.pointer (some ⟨p, 0, none⟩), .pointer none, .int .i64 0, .int .i64 0, .int .i64 0, .int .i64 0, .int .i64 0, .slice none 0 0, .int .i64 0, .bool false] 100)) ro rc l ∧
      Calls Tryz.prog 28 #[.pointer (some ⟨w3.heap.size, 0, none⟩), .slice ro l.length rc] (w3.alloc (.cells #[.pointer (some ⟨p, 0, none⟩), .pointer none, .int .i64 0, .int .i64 0, .int .i64 0, .int .i64 0, .int .i64 0, .slice none 0 0, .int .i64 0, .bool false] 100)) (RewPost (w3.alloc (.cells #[.pointer (some ⟨p, 0, none⟩), .pointer none, .int .i64 0, .int .i64 0, .int .i64 0, .int .i64 0, .int .i64 0, .slice none 0 0, .int .i64 0, .bool false] 100)) (upd R w3.heap.size 6) w3.heap.size p b d 0 l G0 h0 a0)) := by
    obtain ⟨hT, hk, hD, hup, hcnt, h4, hm, hho, SE, MA, HO, HRC⟩ := unhide HH
    obtain ⟨q2, q3, q4, q5⟩ := unhide HL
    have hFa := (unhide HF2).alloc (.cells #[.int .i64 (G0 : Int), .int .i64 (h0 : Int)] 90)
    have hF3 : Fr (fun _ => False) w1 w3 := hFa.trans q5 (fun _ _ t => t)
    have hs13 := hF3.size
    have hs1a := hFa.size
    have hF34 : Fr (fun _ => False) w3 (w3.alloc (.cells #[.pointer (some ⟨p, 0, none⟩), .pointer none, .int .i64 0, .int .i64 0, .int .i64 0, .int .i64 0, .int .i64 0, .slice none 0 0, .int .i64 0, .bool false] 100)) := (Fr.refl _ _).alloc _
    have hF4 : Fr (fun _ => False) w1 (w3.alloc (.cells #[.pointer (some ⟨p, 0, none⟩), .pointer none, .int .i64 0, .int .i64 0, .int .i64 0, .int .i64 0, .int .i64 0, .slice none 0 0, .int .i64 0, .bool false] 100)) := hF3.alloc _
    have hU : UpR w3 R (upd R w3.heap.size 6) := fun k hk => upd_other R 6 (by omega)
    have hU1 : UpR w1 R (upd R w3.heap.size 6) := fun k hk => hU k (by omega)
    have hsz : (w3.alloc (.cells #[.pointer (some ⟨p, 0, none⟩), .pointer none, .int .i64 0, .int .i64 0, .int .i64 0, .int .i64 0, .int .i64 0, .slice none 0 0, .int .i64 0, .bool false] 100)).heap.size = w3.heap.size + 1 := heap_alloc _ _
    have hRP : RecsP (fun k => w1.heap.size ≤ k ∧ k < w3.heap.size ∧ upd R w3.heap.size 6 k = 0) (w3.alloc (.cells #[.pointer (some ⟨p, 0, none⟩), .pointer none, .int .i64 0, .int .i64 0, .int .i64 0, .int .i64 0, .int .i64 0, .slice none 0 0, .int .i64 0, .bool false] 100)) ro rc l :=
      (q4.mono (Q := fun k => w1.heap.size ≤ k ∧ k < w3.heap.size ∧ upd R w3.heap.size 6 k = 0) (fun k hk h => ⟨by omega, hk, by rw [hU k hk]; exact hD.zero k (by omega)⟩)).frame hF34 (fun _ _ t => t)
    have hfit : (strm l).length ≤ 504 * hlf d.many := by
      rcases Nat.eq_zero_or_pos G0 with e | e
      · rw [q2 e, strm_nil]; simp
      · exact (q3 e).fit (fun i => hD.ok.look i)
    have hnp := nputs_hlf l _ hfit
    refine hide ⟨hF4, hs13, hU, hRP, ?_⟩
    refine lrewrite_any _ (upd R w3.heap.size 6) w3.heap.size _ p b d 0 (hT.frame hF4 (fun _ t => t.elim) hU1) ⟨Bx.new w3 _ _, rfl, rfl, rfl, rfl, upd_same R _ 6, fun i n e => ?_⟩ (hk.frame hF4 (fun _ _ t => t) hU1) (hD.up hF4 (fun _ t => t.elim) hU1 (fun k hk => ?_)) hup l (by omega) h4 hm (by omega) G0 h0 a0 hho ro rc (hRP.mono (fun _ _ h => h.2.2)) hfit
    · have hlt : i < 10 := (Array.getElem?_eq_some_iff.1 e).1
      rcases (by omega : i = 0 ∨ i = 1 ∨ i = 2 ∨ i = 3 ∨ i = 4 ∨ i = 5 ∨ i = 6 ∨ i = 7 ∨ i = 8 ∨ i = 9) with rfl | rfl | rfl | rfl | rfl | rfl | rfl | rfl | rfl | rfl <;> simp at e
    · rw [upd_other R 6 (by omega)]; exact hD.zero k (by omega)
  have hln : (l.length : Int) ≤ 140737488355328 := by have := (unhide HL).2.2.1.small; omega
  go_wp2_with fail
  refine (unhide HRW).2.2.2.2.mono ?_
  rintro e w5 ⟨G, g1, g2, g3, D, hDD, rfl, R5, cs5, j1, j2, j3, j4⟩
  have HE : Hid (∀ e, (D.2 = true → e = .returned (.tuple #[.pointer none, .slice none 0 0, errV 5])) → (D.2 = false → e = .returned (.tuple #[.pointer (some ⟨w3.heap.size, 0, none⟩), .slice ro l.length rc, .nilIface])) → OpenPost w1 R p b d G0 h0 a0 e w5) := by
    refine hide (fun e h1 h2 => ?_)
    obtain ⟨k1, k2, k3, k4, k5⟩ := unhide HRW
    obtain ⟨q2, q3, q4, q5⟩ := unhide HL
    have hU5 : UpR w1 R R5 := fun k hk => by rw [j2 k (Nat.lt_of_lt_of_le hk k1.size), k3 k (by omega)]
    have hF5 : Fr (DS R) w1 w5 := (k1.mono (fun _ _ t => t.elim)).trans j3 (fun k hk t => by
      rcases t with t | t
      · unfold DS at t ⊢; rw [k3 k (by omega)] at t; exact t
      · omega)
    refine ⟨l, G, D, R5, q2, q3, g1, g2, g3, hDD, j1, hU5, hF5, h1, fun hr => ⟨w3.heap.size, cs5, ro, rc, h2 hr, k2, j4 hr, ?_⟩⟩
    refine ((k4.frame j3 (fun k hk t => ?_)).mono (fun k _ h => ⟨h.1, ?_⟩))
    · rcases t with t | t
      · have := t.1; omega
      · omega
    · rw [j2 k (by rw [heap_alloc]; omega)]; exact h.2.2
  clear j1 j2 j3 j4 g1 g2 g3 hDD
  cases hr : D.2 with
  | true =>
    rw [hr] at HE
    simp only [if_true]
    clear HRW HL HF2 HH
    go_wp2
    go_ret3
    exact unhide HE _ (fun _ => rfl) (fun h => by cases h)
  | false =>
    rw [hr] at HE
    simp only [if_false, Bool.false_eq_true]
    clear HRW HL HF2 HH
    go_wp2
    go_ret3
    exact unhide HE _ (fun h => by cases h) (fun _ => rfl)

end Go.Proofs.YtjkghgcdkfkekaaGreatDoor

