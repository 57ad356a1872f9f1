import Derived.Test.YtjkghgcdkfkekaaGreatDoorYW8
/- Contracts: halfOf, parts, a head's records. -/
namespace Go.Proofs.YtjkghgcdkfkekaaGreatDoor
open Go.RowKit

theorem cut8 (g : Nat) (w : World) : (Instr.slice 28 (.slice (some ⟨g, 0, none⟩) 512 512) (some (.int .i64 8)) none none).run Tryz.prog w = .ok (.slice (some ⟨g, 8, none⟩) 504 504) w := by
  rw [run_slice_l (P := Tryz.prog) (w := w) 28 (some ⟨g, 0, none⟩) 512 512 under37 .i64 8 (by omega) (by omega), size5w]
  simp [Result.andThen, sliced, Addr.add_lit]

set_option maxRecDepth 20000 in
theorem halfOf_any (w : World) (R : Nat → Nat) (p b many : Nat) (h : Dsk w R p b many) (h4 : 4 ≤ many) (hm : many ≤ 1048576) (x : Nat) (hx : x ≤ 1) :
    Calls Tryz.prog 67 #[.pointer (some ⟨p, 0, none⟩), .int .i64 (x : Int)] w fun e w' => e = .returned (.agg #[.pointer (some ⟨p, 0, none⟩), .int .i64 ((2 + x * hlf many : Nat) : Int), .int .i64 (hlf many : Int)]) ∧ Fr (fun _ => False) w w' := by
  have hb := hlf_bd many h4 hm
  have hb2 : (hlf many : Int) ≤ 524287 := by omega
  have hb1 : (1 : Int) ≤ (hlf many : Int) := by omega
  have HH := hide (And.intro h (And.intro h4 hm))
  clear h h4 hm hb
  have hxx : x = 0 ∨ x = 1 := by omega
  clear hx
  rcases hxx with rfl | rfl
  all_goals
    go_enter Tryz.func67, Tryz.ntmps67
    go_wp2_with fail
    have hF0 : Fr (fun _ => False) w (w.alloc (.cells #[.pointer none, .int .i64 0, .int .i64 0] 96)) := (Fr.refl _ _).alloc _
    have hbx := Bx.new w #[.pointer none, .int .i64 0, .int .i64 0] 96
    generalize w.alloc (.cells #[.pointer none, .int .i64 0, .int .i64 0] 96) = w0 at *
    refine (sectors_any _ R p b many ((unhide HH).1.frame hF0 (fun _ _ t => t) (UpR.refl _ _))).mono ?_
    rintro e w1 ⟨rfl, rfl⟩
    have c0 : w1.cell? ⟨w.heap.size, 0, none⟩ = some (.pointer none) := hbx.cell 0
    have c1 : w1.cell? ⟨w.heap.size, 1, none⟩ = some (.int .i64 0) := hbx.cell 1
    have c2 : w1.cell? ⟨w.heap.size, 2, none⟩ = some (.int .i64 0) := hbx.cell 2
    have f0 := hbx.frozen 0
    have f1 := hbx.frozen 1
    have f2 := hbx.frozen 2
    have HF := hide hF0
    clear hF0 hbx
    go_wp2_with fail
    refine (halfs_any _ many (unhide HH).2.1 (unhide HH).2.2).mono ?_
    rintro e w2 ⟨rfl, rfl⟩
    clear HH
    go_wp2
    refine bodyPost_ret (v := .agg #[.pointer (some ⟨p, 0, none⟩), .int .i64 _, .int .i64 (hlf many : Int)]) (by simp [results, Tryz.results67, go_sem, c0, c1, c2]; rfl) rfl ⟨by simp, ?_⟩
    exact (((unhide HF).setCell (fun h => absurd h (by show ¬ w.heap.size < w.heap.size; omega)) _).setCell (fun h => absurd h (by show ¬ w.heap.size < w.heap.size; omega)) _).setCell (fun h => absurd h (by show ¬ w.heap.size < w.heap.size; omega)) _

theorem prt_snoc (c : Nat → Bs) (first t : Nat) : prt c first (t + 1) = prt c first t ++ (c (first + t)).drop 8 := rfl

set_option maxHeartbeats 2000000 in
set_option maxRecDepth 20000 in
theorem parts_any (w : World) (R : Nat → Nat) (p b : Nat) (d : Dk) (h : Dsk w R p b d.many) (hD : DAt w R b d) (hup : d.down = false) (first H G : Nat) (hfh : first + H ≤ d.many) (hH : H ≤ 524287) (hG : G < 9223372036854775808) :
    Calls Tryz.prog 68 #[.agg #[.pointer (some ⟨p, 0, none⟩), .int .i64 (first : Int), .int .i64 (H : Int)], .int .i64 (G : Int)] w fun e w' => ∃ t ao cap g, t ≤ H ∧ (∀ i, i < t → mrk (d.look (first + i)) = G) ∧ (t = H ∨ mrk (d.look (first + t)) ≠ G) ∧
      e = .returned (.tuple #[.slice ao (prt d.look first t).length cap, .nilIface]) ∧ Row w' (.slice ao (prt d.look first t).length cap) g (prt d.look first t) ∧ Fr (fun _ => False) w w' := by
  obtain ⟨i0, hi, hz0, hz1, hz2⟩ := info_parts Tryz.info5
  have hmany := hD.many
  have hfi : (first : Int) + (H : Int) ≤ 4294967296 := by omega
  have hHi : (H : Int) ≤ 524287 := by omega
  have hok := hD.ok
  have HH := hide (And.intro h (And.intro hD (And.intro hup (And.intro hfh (And.intro hH (And.intro hG hok))))))
  have HI := hide (And.intro hi (And.intro hz0 (And.intro hz1 hz2)))
  clear h hD hup hfh hH hG hok hi hz0 hz1 hz2 hmany
  go_enter Tryz.func68, Tryz.ntmps68
  go_wp2
  have hF0 : Fr (fun _ => False) w (w.alloc (.cells #[.pointer (some ⟨p, 0, none⟩), .int .i64 (first : Int), .int .i64 (H : Int)] 96)) := (Fr.refl _ _).alloc _
  have hbx := Bx.new w #[.pointer (some ⟨p, 0, none⟩), .int .i64 (first : Int), .int .i64 (H : Int)] 96
  generalize w.alloc (.cells #[.pointer (some ⟨p, 0, none⟩), .int .i64 (first : Int), .int .i64 (H : Int)] 96) = w0 at *
  have HW := hide (And.intro hF0 hbx)
  clear hF0 hbx
  go_loopw [6, 12] (fun pv iv wr => ∃ t : Nat, t ≤ H ∧ iv = .int .i64 t ∧ ∃ ao cap g, pv = .slice ao (prt d.look first t).length cap ∧ Hid ((∀ i, i < t → mrk (d.look (first + i)) = G) ∧ Row wr (.slice ao (prt d.look first t).length cap) g (prt d.look first t) ∧ Fr (fun _ => False) w wr ∧ Bx wr w.heap.size #[.pointer (some ⟨p, 0, none⟩), .int .i64 (first : Int), .int .i64 (H : Int)] 96 ∧ w.heap.size < g)) (fun _ iv _ => H - (intOf iv).toNat)
  case atStart => exact ⟨0, Nat.zero_le _, rfl, none, 0, w.heap.size + 1, rfl, fun i h => absurd h (by omega), Row.nil _ _, (unhide HW).1, (unhide HW).2, by omega⟩
  case round =>
    obtain ⟨t, ht, rfl, ao, cap, g, rfl, HR⟩ := hrel
    obtain ⟨h, hD, hup, hfh, hH, hG, hok⟩ := unhide HH
    obtain ⟨hst, hrow, hF, hbx, hgw⟩ := unhide HR
    have hl5 : ∀ i, i < t → (d.look (first + i)).length = 512 := fun i _ => hok.look _
    have hpl := prt_length d.look first t hl5
    by_cases hlt : t < H
    · have hti : (t : Int) < (H : Int) := by omega
      have ht0 : (0 : Int) ≤ (first : Int) + (t : Int) := by omega
      have k0 : wr.cell? ⟨w.heap.size, 0, none⟩ = some (.pointer (some ⟨p, 0, none⟩)) := hbx.cell 0
      have k1 : wr.cell? ⟨w.heap.size, 1, none⟩ = some (.int .i64 (first : Int)) := hbx.cell 1
      have hl512 : (d.look (first + t)).length = 512 := hok.look _
      have hsn := prt_snoc d.look first t
      have RD := read_any wr R p b d (h.frame hF (fun _ _ t => t) (UpR.refl _ _)) (hD.frame hF (fun _ t => t.elim)) hup (first + t) (by omega)
      rw [show ((first + t : Nat) : Int) = (first : Int) + (t : Int) by omega] at RD
      have HK := hide (And.intro RD (And.intro hl512 (And.intro hsn (And.intro hpl hG))))
      clear RD hl512 hsn hpl hG hst hrow hF hbx hgw h hD hup hH hok hl5
      generalize hP : prt d.look first t = P at *
      generalize hL : d.look (first + t) = L at *
      have HPL := hide (And.intro hP hL)
      clear hP hL
      go_wp2_with fail
      refine (unhide HK).1.mono ?_
      rintro e w1 ⟨g1, rfl, hg1, hF1, hgl⟩
      have HR1 := hide (And.intro hg1 (And.intro hF1 hgl))
      clear hg1 hF1 hgl k0 k1
      go_wp2_with fail
      refine (stampOf_any _ g1 L (unhide HR1).1 (unhide HK).2.1).mono ?_
      rintro e w2 ⟨rfl, hF2⟩
      have hL8 : ((L.drop 8)).length = 504 := by have := (unhide HK).2.1; rw [List.length_drop]; omega
      obtain ⟨hst, hrow, hF, hbx, hgw⟩ := unhide HR
      have hF12 := (unhide HR1).2.1.trans hF2 (fun _ _ t => t)
      have hbL : BAt w2 (some ⟨g1, 0, none⟩) L.length L := BAt.ofBx ((unhide HR1).1.keep hF2) (by have := (unhide HK).2.1; omega)
      obtain ⟨bq, bo, be, hcq⟩ := hbL.2.1 (by have := (unhide HK).2.1; omega)
      injection be with be
      injection be with be1 be2
      subst be1 be2
      have hb8 := hbL.cut hcq 8 504 504 (by have := (unhide HK).2.1; omega)
      rw [List.take_of_length_le (by omega)] at hb8
      have hsrc := src_slice Tryz.underlying28 w2 (some ⟨g1, 0 + 8, none⟩) 504 (L.drop 8) hb8.2.1
      rw [hL8, Nat.zero_add] at hsrc
      have hrow2 : Row w2 (.slice ao P.length cap) g P := hrow.elsewhere (fun hc => hF12.block g (hrow.lt0 hc) (fun t => t))
      have hbx2 := hbx.keep hF12
      have HR2 := hide (And.intro hsrc (And.intro hrow2 (And.intro hbx2 (And.intro (hF.trans hF12 (fun _ _ t => t)) (And.intro hst (And.intro hgw hL8))))))
      have hs8 := cut8 g1
      clear hF2 hL8 hst hrow hF hbx hgw hF12 hbL hcq hb8 hsrc hrow2 hbx2
      by_cases heq : mrk L = G
      · have hne : (((mrk L : Nat) : Int) != (G : Int)) = false := by simp [heq]
        have hne2 : (((mrk L : Nat) : Int) == (G : Int)) = true := by simp [heq]
        have HEQ := hide heq
        clear heq
        go_wp2_with (at_builtin; refine wpList_append_row _ rfl (.tmp 32) (.tmp 34) 28 28 rfl 5 i0 Tryz.underlying28 (unhide HI).1 (unhide HI).2.1 (unhide HI).2.2.1 (unhide HI).2.2.2 (ao := ao) (cap := cap) (g := g) (bs := P) rfl (unhide HR2).2.1 _ (L.drop 8) rfl ?hs ?hf ?next)
        case hs => rw [(unhide HR2).2.2.2.2.2.2]; exact (unhide HR2).1
        case hf => rw [(unhide HK).2.2.2.1, (unhide HR2).2.2.2.2.2.2]; omega
        case next =>
          intro ao3 cap3 w3 g3 hr3 hf3 hg3
          have HR3 := hide (And.intro hr3 (And.intro hf3 hg3))
          clear hr3 hf3 hg3 hs8
          go_wp2
          obtain ⟨hr3, hf3, hg3⟩ := unhide HR3
          obtain ⟨_, hrow2, hbx2, hF2, hst, hgw, hL8⟩ := unhide HR2
          have hsn := (unhide HK).2.2.1
          have hs2 := hF2.size
          have hF3 : Fr (fun _ => False) w w3 := hF2.trans hf3 (fun i hi t => by omega)
          have hlw : w.heap.size < w2.heap.size := hbx2.lt
          have hplen : (P ++ L.drop 8).length = P.length + (L.drop 8).length := List.length_append
          refine ⟨⟨t + 1, by omega, by go_num, ao3, cap3, g3, by rw [hsn, hplen, List.length_drop], fun i hi => ?_, by rw [hsn, hplen, List.length_drop]; exact hr3, hF3, hbx2.frame hf3 (by omega), by omega⟩, by simp [intOf]; omega⟩
          by_cases hit : i < t
          · exact hst i hit
          · obtain rfl : i = t := by omega
            rw [(unhide HPL).2]; exact unhide HEQ
      · have hne : (((mrk L : Nat) : Int) != (G : Int)) = true := by simp; omega
        have hne2 : (((mrk L : Nat) : Int) == (G : Int)) = false := by simp; omega
        have HEQ := hide heq
        clear heq
        go_wp2
        go_ret2
        obtain ⟨_, hrow2, hbx2, hF2, hst, hgw, hL8⟩ := unhide HR2
        refine ⟨t, ao, cap, g, by omega, hst, .inr (by rw [(unhide HPL).2]; exact unhide HEQ), by rw [(unhide HPL).1]; rfl, by rw [(unhide HPL).1]; exact hrow2, hF2⟩
    · obtain rfl : t = H := by omega
      clear hrow hF hbx hgw h hD hup hfh hH hG hok hst hl5 hpl
      go_wp2
      go_ret2
      obtain ⟨hst, hrow, hF, hbx, hgw⟩ := unhide HR
      exact ⟨t, ao, cap, g, Nat.le_refl _, hst, .inl rfl, rfl, hrow, hF⟩

/-- These are the records of a half for a number. -/
def IsFound (c : Nat → Bs) (first H G : Nat) (l : List Bs) : Prop := ∃ t, t ≤ H ∧ (∀ i, i < t → mrk (c (first + i)) = G) ∧ (t = H ∨ mrk (c (first + t)) ≠ G) ∧ IsRecs (prt c first t) l

set_option maxHeartbeats 2000000 in
set_option maxRecDepth 20000 in
theorem records_any (w : World) (hT : TabAt w) (R : Nat → Nat) (p b : Nat) (d : Dk) (h : Dsk w R p b d.many) (hD : DAt w R b d) (hup : d.down = false) (h4 : 4 ≤ d.many) (hm : d.many ≤ 1048576) (G x : Nat) (hG : G < 9223372036854775808) (hx : x ≤ 1) :
    Calls Tryz.prog 41 #[.agg #[.int .i64 (G : Int), .int .i64 (x : Int)], .pointer (some ⟨p, 0, none⟩)] w fun e w' => ∃ l ro rc, e = .returned (.tuple #[.slice ro (List.length l) rc, .nilIface]) ∧ (G = 0 → l = []) ∧ (0 < G → IsFound d.look (2 + x * hlf d.many) (hlf d.many) G l) ∧ RecsP (fun k => w.heap.size ≤ k) w' ro rc l ∧ Fr (fun _ => False) w w' := by
  by_cases hg0 : G = 0
  · subst hg0
    clear hT h hD hup h4 hm hG hx
    go_enter Tryz.func41, Tryz.ntmps41
    go_wp2
    go_ret2
    exact ⟨[], none, 0, rfl, fun _ => rfl, fun h => absurd h (by omega), ⟨fun h => absurd h (by simp), by simp⟩, (Fr.refl _ _).alloc _⟩
  · have hgi : ((G : Int) == 0) = false := by simp; omega
    have hb := hlf_bd d.many h4 hm
    have hx1 : x * hlf d.many ≤ hlf d.many := by have : x = 0 ∨ x = 1 := by omega
                                                 rcases this with rfl | rfl <;> omega
    have hfh : 2 + x * hlf d.many + hlf d.many ≤ d.many := by
      have : x = 0 ∨ x = 1 := by omega
      unfold hlf at *
      rcases this with rfl | rfl <;> omega
    have hF0 : Fr (fun _ => False) w (w.alloc (.cells #[.int .i64 (G : Int), .int .i64 (x : Int)] 90)).drew := ((Fr.refl _ _).alloc _).drew
    have hbx : Bx (w.alloc (.cells #[.int .i64 (G : Int), .int .i64 (x : Int)] 90)).drew w.heap.size #[.int .i64 (G : Int), .int .i64 (x : Int)] 90 := (Bx.new w _ _).drew
    have HO := halfOf_any (w.alloc (.cells #[.int .i64 (G : Int), .int .i64 (x : Int)] 90)).drew R p b d.many (h.frame hF0 (fun _ _ t => t) (UpR.refl _ _)) h4 hm x hx
    have HH := hide (And.intro HO (And.intro hF0 (And.intro hbx (And.intro h (And.intro hD (And.intro hup (And.intro hfh (And.intro hb (And.intro hG (And.intro hT hg0))))))))))
    clear HO hF0 hbx h hD hup hfh hb hG hT h4 hm hx hx1 hg0
    have hS : ∀ w', Fr (fun _ => False) (w.alloc (.cells #[.int .i64 (G : Int), .int .i64 (x : Int)] 90)).drew w' → w'.cell? ⟨w.heap.size, 0, none⟩ = some (.int .i64 (G : Int)) ∧ w'.cell? ⟨w.heap.size, 1, none⟩ = some (.int .i64 (x : Int)) := fun w' hf => ⟨((unhide HH).2.2.1.keep hf).cell 0, ((unhide HH).2.2.1.keep hf).cell 1⟩
    have HS := hide hS
    clear hS
    go_enter Tryz.func41, Tryz.ntmps41
    go_wp2
    go_region_held3 (fun w' => w'.cell? ⟨w.heap.size, 0, none⟩ = some (.int .i64 (G : Int)) ∧ w'.cell? ⟨w.heap.size, 1, none⟩ = some (.int .i64 (x : Int))) (first | exact unhide HS _ (Fr.refl _ _) | exact unhide HS _ (unhide HP).2 | exact unhide HS _ hF1) (first | (go_at_call 67; refine (unhide HH).1.mono ?_; rintro e w1 ⟨rfl, hF1⟩) | (go_at_call 68; refine (parts_any w1 R p b d ((unhide HH).2.2.2.1.frame ((unhide HH).2.1.trans hF1 (fun _ _ t => t)) (fun _ _ t => t) (UpR.refl _ _)) ((unhide HH).2.2.2.2.1.frame ((unhide HH).2.1.trans hF1 (fun _ _ t => t)) (fun _ t => t.elim)) (unhide HH).2.2.2.2.2.1 (2 + x * hlf d.many) (hlf d.many) G (unhide HH).2.2.2.2.2.2.1 (unhide HH).2.2.2.2.2.2.2.1.2 (unhide HH).2.2.2.2.2.2.2.2.1).mono ?_; rintro e w2 ⟨t, ao, cap, g, ht, hst, hend, rfl, hrow, hF2⟩; have HP := hide (And.intro (And.intro ht (And.intro hst (And.intro hend hrow))) (hF1.trans hF2 (fun _ _ t => t))); clear ht hst hend hrow hF2))
    obtain ⟨⟨ht, hst, hend, hrow⟩, hF2⟩ := unhide HP
    have hT := (unhide HH).2.2.2.2.2.2.2.2.2.1
    have hF02 : Fr (fun _ => False) w w2 := (unhide HH).2.1.trans hF2 (fun _ _ t => t)
    have hok := (unhide HH).2.2.2.2.1.ok
    have hpl := prt_length d.look (2 + x * hlf d.many) t (fun i _ => hok.look _)
    have hhb := (unhide HH).2.2.2.2.2.2.2.1.2
    have hg0 := (unhide HH).2.2.2.2.2.2.2.2.2.2
    obtain ⟨ao0, cap0, hv0, q1, q2, q3, q4⟩ := hrow.shape
    injection hv0 with e1 e2 e3
    subst e1 e3
    have RI := recordsIn_any w2 (hT.later hF02) ao cap (prt d.look (2 + x * hlf d.many) t) (hrow.bat (by omega)).2 q1 q2 (by omega)
    have HQ := hide (And.intro RI (And.intro hF02 (And.intro ht (And.intro hst (And.intro hend hg0)))))
    clear RI ht hst hend hrow hF2 hT hF02 hok hpl hhb hg0 q1 q2 q3 q4 e2 HP HS HH hF1
    generalize hPP : prt d.look (2 + x * hlf d.many) t = PP at *
    have HPP := hide hPP
    clear hPP
    go_wp2_with fail
    refine (unhide HQ).1.mono ?_
    rintro e w3 ⟨l, ro, rc, rfl, hIs, hRc, hF3⟩
    have HE := hide (And.intro hIs (And.intro hRc hF3))
    clear hIs hRc hF3
    go_wp2
    go_ret2
    obtain ⟨hIs, hRc, hF3⟩ := unhide HE
    obtain ⟨_, hF02, ht, hst, hend, hg0⟩ := unhide HQ
    refine ⟨l, ro, rc, rfl, fun h => absurd h hg0, fun _ => ⟨t, ht, hst, hend, by rw [unhide HPP]; exact hIs⟩, hRc.mono (fun k _ hk => Nat.le_trans hF02.size hk), hF02.trans hF3 (fun _ _ t => t)⟩

end Go.Proofs.YtjkghgcdkfkekaaGreatDoor

