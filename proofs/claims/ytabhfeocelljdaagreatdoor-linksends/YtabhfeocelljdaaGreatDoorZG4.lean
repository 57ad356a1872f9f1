import Derived.Test.YtabhfeocelljdaaGreatDoorZG3
import Derived.BigQuiet
/- Contracts: isQueue, joins, forget. -/
namespace Go.Proofs.YtabhfeocelljdaaGreatDoor
open Go.RowKit Go.Maps

/-- Items that can be read. -/
structure ItsAt (w : World) (io : Option Addr) (its : List Itm) : Prop where
  cells : 0 < its.length → ∃ b off, io = some ⟨b, off, none⟩ ∧ ∀ i (h : i < its.length), w.cell? ⟨b, off + i * 2, none⟩ = some (.int .i64 its[i].seq) ∧ ∃ ao cap, w.cell? ⟨b, off + i * 2 + 1, none⟩ = some (.slice ao its[i].bytes.length cap) ∧ BAt w ao cap its[i].bytes
  small : its.length ≤ 140737488355328
theorem ItsAt.stay {S : Nat → Prop} {w w' : World} {io : Option Addr} {its : List Itm} (h : ItsAt w io its) (k : Fr S w w') (hS : ∀ i, i < w.heap.size → ¬ S i) : ItsAt w' io its := by
  have k' : Fr (fun _ => False) w w' := k.mono (fun i hi t => hS i hi t)
  refine ⟨fun h0 => ?_, h.small⟩
  obtain ⟨b, off, e, hc⟩ := h.cells h0
  refine ⟨b, off, e, fun i hi => ?_⟩
  obtain ⟨c1, ao, cap, c2, c3⟩ := hc i hi
  exact ⟨(k'.cell (a := ⟨b, off + i * 2, none⟩) (World.block_lt_of_cell? _ _ c1) (fun t => t)).trans c1, ao, cap, (k'.cell (a := ⟨b, off + i * 2 + 1, none⟩) (World.block_lt_of_cell? _ _ c2) (fun t => t)).trans c2, c3.later k'⟩
theorem ItsAt.later {w w' : World} {io : Option Addr} {its : List Itm} (h : ItsAt w io its) (k : Fr (fun _ => False) w w') : ItsAt w' io its := h.stay k (fun _ _ t => t)

def prevI (its : List Itm) (i : Nat) : Option Int := if i = 0 then none else (its[i - 1]?).map Itm.seq
theorem isQgo_drop (its : List Itm) (i : Nat) (h : i < its.length) : isQgo (prevI its i) (its.drop i) = (okI its[i] && nextI (prevI its i) its[i] && isQgo (prevI its (i + 1)) (its.drop (i + 1))) := by
  rw [List.drop_eq_getElem_cons h]
  show (okI its[i] && nextI (prevI its i) its[i] && isQgo (some its[i].seq) (its.drop (i + 1))) = _
  congr 2
  unfold prevI
  rw [if_neg (by omega), Nat.add_sub_cancel, List.getElem?_eq_getElem h]
  rfl

set_option maxHeartbeats 1000000 in
set_option maxRecDepth 20000 in
theorem isqueue_any (w : World) (io : Option Addr) (ic : Nat) (its : List Itm) (h : ItsAt w io its) :
    Calls Tryz.prog 38 #[.slice io its.length ic] w fun e w' => e = .returned (.bool (isQ its)) ∧ Hid (Fr (fun _ => False) w w') := by
  have hs := h.small
  have H := hide h
  have hsI : (its.length : Int) ≤ 140737488355328 := by omega
  clear h hs
  go_enter Tryz.func38, Tryz.ntmps38
  go_wp2
  go_loopw [7] (fun iv wr => ∃ (i : Nat), i ≤ its.length ∧ iv = .int .i64 i ∧ Hid (Fr (fun _ => False) w wr ∧ isQgo (prevI its i) (its.drop i) = isQ its ∧ ∀ j (hj : j < its.length), j < i → its[j].seq ≤ 4294967295 ∧ 1 ≤ its[j].seq)) (fun iv _ => its.length - (intOf iv).toNat)
  case atStart => exact ⟨0, Nat.zero_le _, rfl, hide ⟨Fr.refl _ _, rfl, fun j hj t => by omega⟩⟩
  case round =>
    obtain ⟨i, hi, rfl, HI⟩ := hrel
    by_cases hil : i < its.length
    · have hiI : (i : Int) < (its.length : Int) := by omega
      obtain ⟨b, off, e, hc⟩ := ((unhide H).later (unhide HI).1).cells (by omega)
      obtain ⟨c1, ao, cap, c2, c3⟩ := hc i hil
      have HC : Hid (0 < i → ∃ pq, wr.cell? ⟨b, off + (i - 1) * 2, none⟩ = some (.int .i64 pq) ∧ (pq ≤ 4294967295 ∧ 1 ≤ pq) ∧ prevI its i = some pq) := hide (fun h0 => ⟨_, (hc (i - 1) (by omega)).1, (unhide HI).2.2 (i - 1) (by omega) (by omega), by unfold prevI; rw [if_neg (by omega), List.getElem?_eq_getElem (by omega)]; rfl⟩)
      subst e
      clear hc
      have HT : Hid ((okI its[i] && nextI (prevI its i) its[i] && isQgo (prevI its (i + 1)) (its.drop (i + 1))) = isQ its) := hide (by rw [← isQgo_drop its i hil]; exact (unhide HI).2.1)
      have HP : Hid (i = 0 → prevI its i = none) := hide (fun h0 => by unfold prevI; rw [if_pos h0])
      have HN : Hid (∀ u, Fr (fun _ => False) wr u → (1 ≤ its[i].seq ∧ its[i].seq ≤ 4294967295) → Fr (fun _ => False) w u ∧ ∀ j (hj : j < its.length), j < i + 1 → its[j].seq ≤ 4294967295 ∧ 1 ≤ its[j].seq) := hide (fun u hu hq => ⟨(unhide HI).1.trans hu (fun _ _ t => t), fun j hj hji => by
        by_cases e : j = i
        · subst e; exact ⟨hq.2, hq.1⟩
        · exact (unhide HI).2.2 j hj (by omega)⟩)
      have HF := hide (unhide HI).1
      generalize its[i] = x at *
      obtain ⟨q, bs⟩ := x
      simp only at c1 c2 c3 HN
      have hlt := World.block_lt_of_cell? _ _ c1
      have HB := hide c3
      clear c3 HI
      by_cases hw1 : 1 ≤ q ∧ q ≤ 4294967295
      · have HW := hide hw1
        by_cases hlg : longB bs = true
        · have hr : isQ its = false := by rw [← unhide HT]; simp [okI, hlg]
          have HZ := hide hr
          have HL := hide hlg
          clear hw1 hlg hr HT HP HN
          go_wp2_with fail
          refine (within_yes _ (unhide HW)).mono ?_
          rintro e w1 ⟨rfl, rfl⟩
          go_wp2_with fail
          refine (llong_any _ ao cap bs).mono ?_
          rw [unhide HL]
          rintro e w1 ⟨rfl, rfl⟩
          go_wp2
          go_ret
          exact ⟨by rw [unhide HZ]; rfl, hide ((unhide HF).alloc _)⟩
        · have hlg : longB bs = false := by simpa using hlg
          have HL := hide hlg
          have hok : okI ⟨q, bs⟩ = true := by simp [okI, hlg, hw1.1, hw1.2]
          by_cases h0 : i = 0
          · have hnx : nextI (prevI its i) ⟨q, bs⟩ = true := by rw [unhide HP h0]; rfl
            have HT2 : Hid (isQgo (prevI its (i + 1)) (its.drop (i + 1)) = isQ its) := hide (by rw [← unhide HT, hok, hnx]; rfl)
            have hd0 : decide ((i : Int) > 0) = false := by simp; omega
            have hd1 : decide ((0 : Int) < (i : Int)) = false := hd0
            have hd2 : decide (0 < i) = false := by simp; omega
            clear hw1 hlg hok hnx HT HP h0
            go_wp2_with fail
            refine (within_yes _ (unhide HW)).mono ?_
            rintro e w1 ⟨rfl, rfl⟩
            go_wp2_with fail
            refine (llong_any _ ao cap bs).mono ?_
            rw [unhide HL]
            rintro e w1 ⟨rfl, rfl⟩
            go_wp2_with fail
            go_quiet (fail)
            go_wp2
            exact ⟨⟨i + 1, by omega, by go_num, hide ⟨(unhide HN _ (((Fr.refl (fun _ => False) wr).alloc _).drewN _) (unhide HW)).1, unhide HT2, (unhide HN wr (Fr.refl _ _) (unhide HW)).2⟩⟩, by simp [intOf]; omega⟩
          · obtain ⟨pq, HPQ, HPR, hpe⟩ := unhide HC (by omega)
            obtain ⟨j, hj⟩ : ∃ j, j = i - 1 := ⟨_, rfl⟩
            rw [← hj] at HPQ
            have hjl : j < its.length := by omega
            have hjI : (j : Int) < (its.length : Int) := by omega
            have hwj : IntKind.i64.wrap ((i : Int) - 1) = (j : Int) := by
              have h1 : (i : Int) - 1 = (j : Int) := by omega
              rw [h1, IntKind.wrap_i64]
              omega
            have hjlt := World.block_lt_of_cell? _ _ HPQ
            have hd2 : decide (0 < i) = true := by simp; omega
            have hnx : nextI (prevI its i) ⟨q, bs⟩ = decide (q = pq + 1) := by rw [hpe]; rfl
            obtain ⟨hp1, hp2⟩ := HPR
            have HJ := hide hj
            clear hj
            by_cases he : q = pq + 1
            · have HT2 : Hid (isQgo (prevI its (i + 1)) (its.drop (i + 1)) = isQ its) := hide (by rw [← unhide HT, hok, hnx, decide_eq_true he]; rfl)
              have hne : (q != pq + 1) = false := by simp [he]
              have HE := hide he
              clear hw1 hlg hok hnx HT HP h0 HC HJ he hpe
              go_wp2_with fail
              refine (within_yes _ (unhide HW)).mono ?_
              rintro e w1 ⟨rfl, rfl⟩
              go_wp2_with fail
              refine (llong_any _ ao cap bs).mono ?_
              rw [unhide HL]
              rintro e w1 ⟨rfl, rfl⟩
              go_wp2_with fail
              go_quiet (fail)
              go_wp2
              exact ⟨⟨i + 1, by omega, by go_num, hide ⟨(unhide HN _ (((Fr.refl (fun _ => False) wr).alloc _).drewN _) (unhide HW)).1, unhide HT2, (unhide HN wr (Fr.refl _ _) (unhide HW)).2⟩⟩, by simp [intOf]; omega⟩
            · have hr : isQ its = false := by rw [← unhide HT, hok, hnx, decide_eq_false he]; rfl
              have HZ := hide hr
              have hne : (q != pq + 1) = true := by simp [he]
              clear hw1 hlg hok hnx HT HP h0 HC HJ he hr hpe
              go_wp2_with fail
              refine (within_yes _ (unhide HW)).mono ?_
              rintro e w1 ⟨rfl, rfl⟩
              go_wp2_with fail
              refine (llong_any _ ao cap bs).mono ?_
              rw [unhide HL]
              rintro e w1 ⟨rfl, rfl⟩
              go_wp2_with fail
              go_quiet (fail)
              go_wp2
              go_ret
              exact ⟨by rw [unhide HZ]; rfl, hide (((unhide HF).alloc _).drewN _)⟩
      · have hr : isQ its = false := by rw [← unhide HT]; simp only [okI]; rw [decide_eq_false hw1]; rfl
        have HZ := hide hr
        have HW := hide hw1
        clear hw1 hr HT HP HN
        go_wp2_with fail
        refine (within_no _ (unhide HW)).mono ?_
        rintro e w1 ⟨rfl, rfl⟩
        go_wp2
        go_ret
        exact ⟨by rw [unhide HZ]; rfl, hide ((unhide HF).alloc _)⟩
    · obtain rfl : i = its.length := by omega
      have hr : isQ its = true := by
        have := (unhide HI).2.1
        rw [List.drop_length] at this
        exact this.symm
      have HZ := hide hr
      have HF := hide (unhide HI).1
      clear HI hil hi hr
      go_wp2
      go_ret
      exact ⟨by rw [unhide HZ]; rfl, HF⟩

end Go.Proofs.YtabhfeocelljdaaGreatDoor

