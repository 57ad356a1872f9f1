import Derived.Test.YtlhgfnpialndaaaDB6
/- Accounts of a book, all of them. -/
namespace Go.Proofs.Ytlhgfnpialndaaa
open Go.RowKit Go.Maps

section
variable {w : World} {p b : Nat} {l : List Ac}

set_option maxRecDepth 20000 in
theorem baccounts_any (h : BM w p b l) : Calls Try.prog 19 #[.pointer (some ⟨p, 0, none⟩)] w fun e w' => ∃ ao cap g, e = .returned (.slice ao l.length cap) ∧ ARow w w' ao cap g l := by
  have H := hide h
  obtain ⟨info, z, i1, i2, i3, i4, i5⟩ := acInfo2
  have HIN := hide (And.intro i1 (And.intro i2 (And.intro i3 (And.intro i4 i5))))
  have HTK := hide (btokens_any h)
  have HLL : Hid ((l.map (·.tok)).length = l.length) := hide (List.length_map ..)
  have hfew := h.bk.few
  have HAT : Hid (∀ i (hi : i < l.length), (l.map (·.tok))[i]'(by rw [List.length_map]; exact hi) = l[i].tok) := hide (fun i hi => by simp)
  clear h i1 i2 i3 i4 i5
  go_enter Try.func19, Try.ntmps19
  go_wp2_with fail
  refine (unhide HTK).mono ?_
  rintro e w1 ⟨at0, ct, gt, rfl, hT, _, hf⟩
  have HT := hide hT
  have HF := hide hf
  clear hT hf HTK
  have HST : Hid (ARow w1 w1 none 0 0 (l.take 0)) := hide ⟨KRow.nil _ _ _, fun h => absurd h (by omega), Fr.refl _ _⟩
  go_wp2
  go_loopw [3, 5, 9] (fun ov _ iv wr => ∃ (i : Nat) (ao : Option Addr) (cap g : Nat), i ≤ l.length ∧ ov = .slice ao i cap ∧ iv = .int .i64 i ∧ Hid (ARow w1 wr ao cap g (l.take i))) (fun _ _ iv _ => l.length - (intOf iv).toNat)
  case atStart => exact ⟨0, none, 0, 0, Nat.zero_le _, rfl, rfl, unhide HST⟩
  case round =>
    obtain ⟨i, ao, cap, g, hi, rfl, rfl, HI⟩ := hrel
    clear HST
    by_cases hil : i < l.length
    · have hic : i < (l.map (·.tok)).length := by rw [List.length_map]; exact hil
      obtain ⟨rfl, c0⟩ := ((unhide HT).keep (unhide HI).fr).at hic
      rw [unhide HAT i hil] at c0
      have hw : BM wr p b l := (unhide H).keep ((unhide HF).trans (unhide HI).fr (fun _ _ t => t))
      have hb8 := (acc_in (hw.bk.ok l[i] (List.getElem_mem hil))).1
      have hL := hw.mp.look1 (q := l[i].tok) (by unfold isTok at hb8; rw [beq_iff_eq] at hb8; simp only [maxLen]; omega)
      have hg : getK l l[i].tok = l[i] := by unfold getK; rw [atK_of hw.bk.rk (List.getElem_mem hil)]; rfl
      rw [hg] at hL
      have hacC : acC l[i] = #[.string l[i].tok, .int .i64 l[i].charged, .int .i64 l[i].paid] := rfl
      rw [hacC] at hL
      have c1 : wr.cell? ⟨p, 0, none⟩ = some (.map (some b)) := hw.cell
      have HY : Hid (l.take (i + 1) = l.take i ++ [l[i]]) := hide (List.take_succ_eq_append_getElem hil)
      have HVL : Hid ((acV (l.take i)).length = i * 3) := hide (by rw [acV_length, List.length_take]; congr 1; omega)
      have HX : Hid (acL l[i] = [.string l[i].tok, .int .i64 l[i].charged, .int .i64 l[i].paid]) := hide rfl
      have HIL := hide hil
      clear hw hb8 hg hacC hic
      generalize l[i] = x at *
      generalize x.tok = xt at *
      generalize x.charged = xc at *
      generalize x.paid = xp at *
      have HSR : Hid (Src Try.prog 3 22 (.slice (some ⟨wr.heap.size, 0, none⟩) 1 1) 1 [.string xt, .int .i64 xc, .int .i64 xp] (wr.alloc (.cells #[.string xt, .int .i64 xc, .int .i64 xp] 26))) := hide (src_one (P := Try.prog) wr [.string xt, .int .i64 xc, .int .i64 xp] 22 26 3 Try.underlying22 rfl (fun u hu => by simp only [List.mem_cons, List.not_mem_nil, or_false] at hu; rcases hu with rfl | rfl | rfl <;> rfl) (fun j => by rw [World.cell?_alloc_new]; simp))
      have HRW : Hid (KRow (wr.alloc (.cells #[.string xt, .int .i64 xc, .int .i64 xp] 26)) ao cap g 3 (acV (l.take i))) := hide ((unhide HI).row.keep (by omega) ((Fr.refl _ _).alloc _))
      go_wp2_with (at_builtin; refine wpList_append_krow _ rfl (.tmp 13) (.tmp 20) 22 22 rfl 26 info _ 3 (by omega) Try.underlying22 (unhide HIN).1 (unhide HIN).2.1 (unhide HIN).2.2.1 (unhide HIN).2.2.2.1 rfl (unhide HRW) (unhide HVL) _ _ 1 rfl (unhide HSR) (by rw [(unhide HIN).2.2.2.2]; omega) (by omega) ?_)
      intro ao2 cap2 w4 g2 hrow hgr
      have HTL : Hid (ARow w1 w4 ao2 cap2 g2 (l.take (i + 1))) := hide (by
        rw [unhide HY]
        refine (unhide HI).app ((Fr.refl _ _).alloc _) x ?_ hgr
        rw [unhide HX]
        exact hrow)
      clear hrow hgr HRW HSR HVL HY HX
      go_wp2
      exact ⟨⟨i + 1, ao2, cap2, g2, by have := unhide HIL; omega, rfl, by go_num, unhide HTL⟩, by have := unhide HIL; simp [intOf]; omega⟩
    · obtain rfl : i = l.length := by omega
      have HE : Hid (l.take l.length = l) := hide (List.take_length ..)
      go_wp2
      go_ret
      exact ⟨ao, cap, g, rfl, by
        obtain ⟨r1, r2, r3⟩ := unhide HI
        rw [unhide HE] at r1
        exact ⟨r1, fun hc => by have a1 := r2 hc; have a2 := (unhide HF).size; omega, (unhide HF).trans r3 (fun _ _ t => t)⟩⟩
end
end Go.Proofs.Ytlhgfnpialndaaa

