import Derived.Test.YtjkghgcdkfkekaaGreatDoorYWH
/- Contract: anew. -/
namespace Go.Proofs.YtjkghgcdkfkekaaGreatDoor
open Go.RowKit

/-- What anew makes. -/
def AnewPost (w : World) (R : Nat → Nat) (l p b : Nat) (d : Dk) (num : Nat) (rs : List Bs) (G0 h0 a0 : Nat) (e : Ending) (w' : World) : Prop :=
  ∃ G : Nat, G0 < G ∧ G ≤ G0 + 1 + hlf d.many ∧ (∀ i, i < hlf d.many → mrk (d.look (2 + (1 - h0) * hlf d.many + i)) ≠ G) ∧
    ∃ D : Dk × Bool, D = d.run (anewActs (2 + (1 - h0) * hlf d.many) G rs (1 - a0) (hsec G (1 - h0))) ∧ e = .returned (if D.2 then errV 5 else .nilIface) ∧
      ∃ R' cs', DAt w' R' b D.1 ∧ UpR w R R' ∧ Fr (fun k => DS R k ∨ k = l) w w' ∧ (D.2 = false → LogAt w' R' l cs' p (2 + (1 - h0) * hlf d.many) (hlf d.many) G rs (num + 1)) ∧ (D.2 = true → LogB w' R' l cs' p num)

theorem LogB.frame {S : Nat → Prop} {w w' : World} {R R' : Nat → Nat} {l : Nat} {cs : Array Value} {p num : Nat} (h : LogB w R l cs p num) (hF : Fr S w w') (hS : ¬ S l) (hU : UpR w R R') : LogB w' R' l cs p num :=
  ⟨h.box.frame hF hS, h.size, h.c0, h.c8, h.c9, by rw [hU l h.box.lt]; exact h.role, h.nob⟩

/-- Eight cells of ten are written. -/
theorem set18 (cs : Array Value) (h : cs.size = 10) (a1 a2 a3 a4 a5 a6 a7 a8 : Value) : ∃ c, c = ((((((((cs.setIfInBounds 1 a1).setIfInBounds 2 a2).setIfInBounds 3 a3).setIfInBounds 4 a4).setIfInBounds 5 a5).setIfInBounds 6 a6).setIfInBounds 7 a7).setIfInBounds 8 a8) ∧ c.size = 10 ∧ c[0]? = cs[0]? ∧ c[1]? = some a1 ∧ c[2]? = some a2 ∧ c[3]? = some a3 ∧ c[4]? = some a4 ∧ c[5]? = some a5 ∧ c[6]? = some a6 ∧ c[7]? = some a7 ∧ c[8]? = some a8 ∧ c[9]? = cs[9]? := by
  refine ⟨_, rfl, ?_⟩
  simp [h]

/-- An act was refused. -/
theorem anewPost_no {w w' : World} {R : Nat → Nat} {l p b : Nat} {d : Dk} {num : Nat} {rs : List Bs} {G0 h0 a0 G : Nat} {cs : Array Value} (hl : LogB w R l cs p num) (h1 : G0 < G) (h2 : G ≤ G0 + 1 + hlf d.many) (h3 : ∀ i, i < hlf d.many → mrk (d.look (2 + (1 - h0) * hlf d.many + i)) ≠ G)
    (r : Dk × Bool) (hr : r.2 = true) (he : d.run (anewActs (2 + (1 - h0) * hlf d.many) G rs (1 - a0) (hsec G (1 - h0))) = r) (hf : Fin' w w' R b r.1) : AnewPost w R l p b d num rs G0 h0 a0 (.returned (errV 5)) w' := by
  obtain ⟨R', j1, j2, j3⟩ := hf
  refine ⟨G, h1, h2, h3, r, he.symm, by rw [hr]; rfl, R', cs, j1, j2, j3.mono (fun _ _ t => .inl t), fun h => (by rw [hr] at h; cases h), fun _ => hl.frame j3 (fun t => ?_) j2⟩
  have := t.2; have := hl.role; omega

set_option maxHeartbeats 4000000 in
set_option maxRecDepth 20000 in
theorem anew_any (w : World) (R : Nat → Nat) (l : Nat) (cs : Array Value) (p b : Nat) (d : Dk) (num : Nat) (hT : TabR w R) (hl : LogB w R l cs p num) (hk : Dsk w R p b d.many) (hD : DAt w R b d) (hup : d.down = false) (rs : List Bs) (hcnt : d.cnt + d.wait.length + 2 * nputs rs rs.length + 600000 < 576460752303423488 ∧ d.wait.length + 2 * nputs rs rs.length + 600000 < 2199023255552) (h4 : 4 ≤ d.many) (hm : d.many ≤ 1048576) (hnum : num < 4611686018427387904)
    (G0 h0 a0 : Nat) (hho : hold d.look = (G0, h0, a0)) (ro : Option Addr) (rc : Nat) (hR : RecsP (fun k => R k = 0) w ro rc rs) (hfit : (strm rs).length ≤ 504 * hlf d.many) :
    Calls Tryz.prog 61 #[.pointer (some ⟨l, 0, none⟩), .slice ro rs.length rc] w (AnewPost w R l p b d num rs G0 h0 a0) := by
  have hb := hl.box
  have ll := hb.lt
  have k0 : w.cell? ⟨l, 0, none⟩ = some (.pointer (some ⟨p, 0, none⟩)) := (hb.cell 0).trans hl.c0
  have HO := holding_any w hT.1 R p b d hk hD hup (by omega)
  simp only [hho] at HO
  have hG0 : G0 < 4611686018427387904 := by have h := (hold_bd d.look).1; rw [hho] at h; have h : G0 ≤ 281474976710656 := h; omega
  have hbd := hlf_bd d.many h4 hm
  obtain ⟨first, hfi⟩ : ∃ first, first = 2 + (1 - h0) * hlf d.many := ⟨_, rfl⟩
  have HH := hide (And.intro hT (And.intro hl (And.intro hk (And.intro hD (And.intro hup (And.intro hcnt (And.intro h4 (And.intro hm (And.intro hnum (And.intro hG0 (And.intro hR (And.intro hfit (And.intro hb (And.intro HO (And.intro hho (And.intro hbd hfi))))))))))))))))
  clear hT hl hk hD hup hcnt h4 hm hnum hG0 hR hfit hb HO hho hbd hfi
  go_enter Tryz.func61, Tryz.ntmps61
  go_wp2_with fail
  refine (unhide HH).2.2.2.2.2.2.2.2.2.2.2.2.2.1.mono ?_
  rintro e w1 ⟨rfl, hF1⟩
  have k0' : w1.cell? ⟨l, 0, none⟩ = some (.pointer (some ⟨p, 0, none⟩)) := (hF1.cell (a := ⟨l, 0, none⟩) ll (fun t => t)).trans k0
  have ll1 : l < w1.heap.size := Nat.lt_of_lt_of_le ll hF1.size
  have HF1 := hide hF1
  clear hF1 k0
  go_upto_region 4 with (fail)
  have hFa : Fr (fun _ => False) w1 (w1.alloc (.cells #[.int .i64 (G0 : Int), .int .i64 (h0 : Int)] 90)) := (Fr.refl _ _).alloc _
  have hgh := Bx.new w1 #[.int .i64 (G0 : Int), .int .i64 (h0 : Int)] 90
  generalize w1.alloc (.cells #[.int .i64 (G0 : Int), .int .i64 (h0 : Int)] 90) = w2 at *
  have hs1 := (unhide HF1).size
  generalize w1.heap.size = gh at *
  have hF2 : Fr (fun _ => False) w w2 := (unhide HF1).trans hFa (fun _ _ t => t)
  have HW2 := hide (And.intro hF2 (And.intro hgh hs1))
  clear hFa hgh hs1 hF2 HF1 k0' ll1
  go_cut [8] from 27 to 35 (fun v8 wc => ∃ g8, v8 = .pointer (some ⟨g8, 0, none⟩) ∧ Hid (Fr (fun _ => False) w2 wc ∧ w2.heap.size ≤ g8 ∧ Bx wc g8 #[.pointer (some ⟨p, 0, none⟩), .int .i64 (first : Int), .int .i64 (hlf d.many : Int), .int .i64 0, .int .i64 0, .int .i64 0, .slice none 0 0] 98))
  case first =>
    obtain ⟨hF2, hgh, hs1⟩ := unhide HW2
    obtain ⟨hT, hl, hk, hD, hup, hcnt, h4, hm, hnum, hG0, hR, hfit, hb, HO, hho, hbd, hfi⟩ := unhide HH
    have hh1 : h0 ≤ 1 := by have h := (holdTo_bd d.look 2).2.1; rw [show holdTo d.look 2 = hold d.look from rfl, hho] at h; exact h
    have hS : ∀ w', Fr (fun _ => False) w2 w' → w'.cell? ⟨l, 0, none⟩ = some (.pointer (some ⟨p, 0, none⟩)) ∧ w'.cell? ⟨gh, 1, none⟩ = some (.int .i64 (h0 : Int)) := fun w' hf => ⟨(((hb.keep hF2).keep hf).cell 0).trans hl.c0, (hgh.keep hf).cell 1⟩
    have hHO : ∀ w', Fr (fun _ => False) w2 w' → Calls Tryz.prog 67 #[.pointer (some ⟨p, 0, none⟩), .int .i64 (1 - (h0 : Int))] w' fun e w'' => e = .returned (.agg #[.pointer (some ⟨p, 0, none⟩), .int .i64 (first : Int), .int .i64 (hlf d.many : Int)]) ∧ Fr (fun _ => False) w' w'' := fun w' hf => by
      have := halfOf_any w' R p b d.many (hk.frame (hF2.trans hf (fun _ _ t => t)) (fun _ _ t => t) (UpR.refl _ _)) h4 hm (1 - h0) (by omega)
      rw [show ((1 - h0 : Nat) : Int) = 1 - (h0 : Int) by omega, ← hfi] at this
      exact this
    have hw : IntKind.i64.wrap (1 - (h0 : Int)) = 1 - (h0 : Int) := by rw [IntKind.wrap_i64]; omega
    have hT0 : Fr (fun _ => False) w2 w2.drew := (Fr.refl _ _).drew
    clear hF2 hgh hs1 hT hl hk hD hup hcnt h4 hm hnum hG0 hR hfit hb HO hho hbd hfi
    refine wp_normal ?_
    refine wp_region_G (k := 10) (T := (fun w' => Fr (fun _ => False) w2 w')) (by kernel_rfl) ?_
    refine wpAnyG_take (i := 0) (v := .pointer (some ⟨l, 0, none⟩)) rfl (by kernel_rfl) (by kernel_rfl) (by kernel_rfl) (by kernel_rfl) (fun _ _ _ h => by cases h.1) (.inl ⟨by rfl, fun w' hT => exMove (by rfl) (by rfl)⟩) hT0 ?_
    change wpAnyG _ _ _ _ _ _ _ _ { tmps := #[.pointer (some ⟨l, 0, none⟩), _, _, _, _, .pointer (some ⟨gh, 0, none⟩), _, _, _, _, _, _, _, _, _, _, _, _, _, _, _, _, _, _, _, _, _, .pointer (some ⟨l, 0, none⟩), _, _, _, _, _, _, _, _, _, _, _, _, _, _, _, _, _, _, _, _, _, _, _, _, _, _, _, _, _, _, _, _, _, _, _, _, _, _, _, _, _, _, _, _, _, _, _, _, _, _, _, _, _, _, _, _, _, _, _, _, _, _, _, _, _, _, _, _, _, _, _, _, _, _, _, _], defers := [] } _
    refine wpAnyG_take (i := 1) (v := .pointer (some ⟨l, 0, none⟩)) rfl (by kernel_rfl) (by kernel_rfl) (by kernel_rfl) (by kernel_rfl) (fun _ _ _ h => by cases h.1) (.inl ⟨by rfl, fun w' hT => exNil (by rfl) (by rfl)⟩) hT0 ?_
    change wpAnyG _ _ _ _ _ _ _ _ { tmps := #[.pointer (some ⟨l, 0, none⟩), _, _, _, _, .pointer (some ⟨gh, 0, none⟩), _, _, _, _, _, _, _, _, _, _, _, _, _, _, _, _, _, _, _, _, _, .pointer (some ⟨l, 0, none⟩), .pointer (some ⟨l, 0, none⟩), _, _, _, _, _, _, _, _, _, _, _, _, _, _, _, _, _, _, _, _, _, _, _, _, _, _, _, _, _, _, _, _, _, _, _, _, _, _, _, _, _, _, _, _, _, _, _, _, _, _, _, _, _, _, _, _, _, _, _, _, _, _, _, _, _, _, _, _, _, _, _, _, _, _, _], defers := [] } _
    refine wpAnyG_take (i := 2) (v := .pointer (some ⟨l, 0, none⟩)) rfl (by kernel_rfl) (by kernel_rfl) (by kernel_rfl) (by kernel_rfl) (fun _ _ _ h => by cases h.1) (.inl ⟨by rfl, fun w' hT => exFd_log_0 (by rfl) (by rfl)⟩) hT0 ?_
    change wpAnyG _ _ _ _ _ _ _ _ { tmps := #[.pointer (some ⟨l, 0, none⟩), _, _, _, _, .pointer (some ⟨gh, 0, none⟩), _, _, _, _, _, _, _, _, _, _, _, _, _, _, _, _, _, _, _, _, _, .pointer (some ⟨l, 0, none⟩), .pointer (some ⟨l, 0, none⟩), .pointer (some ⟨l, 0, none⟩), _, _, _, _, _, _, _, _, _, _, _, _, _, _, _, _, _, _, _, _, _, _, _, _, _, _, _, _, _, _, _, _, _, _, _, _, _, _, _, _, _, _, _, _, _, _, _, _, _, _, _, _, _, _, _, _, _, _, _, _, _, _, _, _, _, _, _, _, _, _, _, _, _, _], defers := [] } _
    refine wpAnyG_take (i := 3) (v := .pointer (some ⟨p, 0, none⟩)) rfl (by kernel_rfl) (by kernel_rfl) (by kernel_rfl) (by kernel_rfl) (fun _ _ _ h => by cases h.1) (.inl ⟨by rfl, fun w' hT => exLd_pd (by rfl) (by rfl) (hS w' hT).1⟩) hT0 ?_
    change wpAnyG _ _ _ _ _ _ _ _ { tmps := #[.pointer (some ⟨l, 0, none⟩), _, _, _, _, .pointer (some ⟨gh, 0, none⟩), _, _, _, _, _, _, _, _, _, _, _, _, _, _, _, _, _, _, _, _, _, .pointer (some ⟨l, 0, none⟩), .pointer (some ⟨l, 0, none⟩), .pointer (some ⟨l, 0, none⟩), .pointer (some ⟨p, 0, none⟩), _, _, _, _, _, _, _, _, _, _, _, _, _, _, _, _, _, _, _, _, _, _, _, _, _, _, _, _, _, _, _, _, _, _, _, _, _, _, _, _, _, _, _, _, _, _, _, _, _, _, _, _, _, _, _, _, _, _, _, _, _, _, _, _, _, _, _, _, _, _, _, _, _], defers := [] } _
    refine wpAnyG_take (i := 4) (v := .pointer (some ⟨gh, 1, none⟩)) rfl (by kernel_rfl) (by kernel_rfl) (by kernel_rfl) (by kernel_rfl) (fun _ _ _ h => by cases h.1) (.inl ⟨by rfl, fun w' hT => exFd_head_1 (by rfl) (by rfl)⟩) hT0 ?_
    change wpAnyG _ _ _ _ _ _ _ _ { tmps := #[.pointer (some ⟨l, 0, none⟩), _, _, _, _, .pointer (some ⟨gh, 0, none⟩), _, _, _, _, _, _, _, _, _, _, _, _, _, _, _, _, _, _, _, _, _, .pointer (some ⟨l, 0, none⟩), .pointer (some ⟨l, 0, none⟩), .pointer (some ⟨l, 0, none⟩), .pointer (some ⟨p, 0, none⟩), .pointer (some ⟨gh, 1, none⟩), _, _, _, _, _, _, _, _, _, _, _, _, _, _, _, _, _, _, _, _, _, _, _, _, _, _, _, _, _, _, _, _, _, _, _, _, _, _, _, _, _, _, _, _, _, _, _, _, _, _, _, _, _, _, _, _, _, _, _, _, _, _, _, _, _, _, _, _, _, _, _, _], defers := [] } _
    refine wpAnyG_take (i := 5) (v := .int .i64 (h0 : Int)) rfl (by kernel_rfl) (by kernel_rfl) (by kernel_rfl) (by kernel_rfl) (fun _ _ _ h => by cases h.1) (.inl ⟨by rfl, fun w' hT => exLd_int (by rfl) (by rfl) (hS w' hT).2⟩) hT0 ?_
    change wpAnyG _ _ _ _ _ _ _ _ { tmps := #[.pointer (some ⟨l, 0, none⟩), _, _, _, _, .pointer (some ⟨gh, 0, none⟩), _, _, _, _, _, _, _, _, _, _, _, _, _, _, _, _, _, _, _, _, _, .pointer (some ⟨l, 0, none⟩), .pointer (some ⟨l, 0, none⟩), .pointer (some ⟨l, 0, none⟩), .pointer (some ⟨p, 0, none⟩), .pointer (some ⟨gh, 1, none⟩), .int .i64 (h0 : Int), _, _, _, _, _, _, _, _, _, _, _, _, _, _, _, _, _, _, _, _, _, _, _, _, _, _, _, _, _, _, _, _, _, _, _, _, _, _, _, _, _, _, _, _, _, _, _, _, _, _, _, _, _, _, _, _, _, _, _, _, _, _, _, _, _, _, _, _, _, _, _], defers := [] } _
    refine wpAnyG_take (i := 6) (v := .int .i64 (1 - (h0 : Int))) rfl (by kernel_rfl) (by kernel_rfl) (by kernel_rfl) (by kernel_rfl) (fun _ _ _ h => by cases h.1) (.inl ⟨by rfl, fun w' hT => exSub1 hw (by rfl) (by rfl)⟩) hT0 ?_
    change wpAnyG _ _ _ _ _ _ _ _ { tmps := #[.pointer (some ⟨l, 0, none⟩), _, _, _, _, .pointer (some ⟨gh, 0, none⟩), _, _, _, _, _, _, _, _, _, _, _, _, _, _, _, _, _, _, _, _, _, .pointer (some ⟨l, 0, none⟩), .pointer (some ⟨l, 0, none⟩), .pointer (some ⟨l, 0, none⟩), .pointer (some ⟨p, 0, none⟩), .pointer (some ⟨gh, 1, none⟩), .int .i64 (h0 : Int), .int .i64 (1 - (h0 : Int)), _, _, _, _, _, _, _, _, _, _, _, _, _, _, _, _, _, _, _, _, _, _, _, _, _, _, _, _, _, _, _, _, _, _, _, _, _, _, _, _, _, _, _, _, _, _, _, _, _, _, _, _, _, _, _, _, _, _, _, _, _, _, _, _, _, _, _, _, _, _], defers := [] } _
    refine wpAnyG_ready (rs := [7, 9]) (by kernel_rfl) (by simp) (AllReadyG.call (i := 7) (f := 67) (args := #[.pointer (some ⟨p, 0, none⟩), .int .i64 (1 - (h0 : Int))]) rfl (by kernel_rfl) (by kernel_rfl) (hHO w2.drew hT0) ?_ (AllReadyG.value (i := 9) (v := .pointer (some ⟨w2.heap.size, 0, none⟩)) rfl (by kernel_rfl) (exAlloc (by rfl)) (fun _ => hT0.alloc _) ?_ AllReadyG.nil))
    · rintro e w3 ⟨rfl, hF3⟩
      have hT3 : Fr (fun _ => False) w2 w3 := hT0.trans hF3 (fun _ _ t => t)
      refine ⟨_, rfl, fun _ => hT3, ?_⟩
      change wpAnyG _ _ _ _ _ _ _ _ { tmps := #[.pointer (some ⟨l, 0, none⟩), _, _, _, _, .pointer (some ⟨gh, 0, none⟩), _, _, _, _, _, _, _, _, _, _, _, _, _, _, _, _, _, _, _, _, _, .pointer (some ⟨l, 0, none⟩), .pointer (some ⟨l, 0, none⟩), .pointer (some ⟨l, 0, none⟩), .pointer (some ⟨p, 0, none⟩), .pointer (some ⟨gh, 1, none⟩), .int .i64 (h0 : Int), .int .i64 (1 - (h0 : Int)), .agg #[.pointer (some ⟨p, 0, none⟩), .int .i64 (first : Int), .int .i64 (hlf d.many : Int)], _, _, _, _, _, _, _, _, _, _, _, _, _, _, _, _, _, _, _, _, _, _, _, _, _, _, _, _, _, _, _, _, _, _, _, _, _, _, _, _, _, _, _, _, _, _, _, _, _, _, _, _, _, _, _, _, _, _, _, _, _, _, _, _, _, _, _, _, _], defers := [] } _
      refine wpAnyG_take (i := 8) (v := .agg #[.pointer (some ⟨p, 0, none⟩), .int .i64 (first : Int), .int .i64 (hlf d.many : Int), .int .i64 0, .int .i64 0, .int .i64 0, .slice none 0 0]) rfl (by kernel_rfl) (by kernel_rfl) (by kernel_rfl) (by kernel_rfl) (fun _ _ _ h => by cases h.1) (.inl ⟨by rfl, fun w' hT => exBuildS (by rfl) (by rfl)⟩) hT3 ?_
      change wpAnyG _ _ _ _ _ _ _ _ { tmps := #[.pointer (some ⟨l, 0, none⟩), _, _, _, _, .pointer (some ⟨gh, 0, none⟩), _, _, _, _, _, _, _, _, _, _, _, _, _, _, _, _, _, _, _, _, _, .pointer (some ⟨l, 0, none⟩), .pointer (some ⟨l, 0, none⟩), .pointer (some ⟨l, 0, none⟩), .pointer (some ⟨p, 0, none⟩), .pointer (some ⟨gh, 1, none⟩), .int .i64 (h0 : Int), .int .i64 (1 - (h0 : Int)), .agg #[.pointer (some ⟨p, 0, none⟩), .int .i64 (first : Int), .int .i64 (hlf d.many : Int)], .agg #[.pointer (some ⟨p, 0, none⟩), .int .i64 (first : Int), .int .i64 (hlf d.many : Int), .int .i64 0, .int .i64 0, .int .i64 0, .slice none 0 0], _, _, _, _, _, _, _, _, _, _, _, _, _, _, _, _, _, _, _, _, _, _, _, _, _, _, _, _, _, _, _, _, _, _, _, _, _, _, _, _, _, _, _, _, _, _, _, _, _, _, _, _, _, _, _, _, _, _, _, _, _, _, _, _, _, _, _, _], defers := [] } _
      refine wpAnyG_ready (rs := [9]) (by kernel_rfl) (by simp) (AllReadyG.value (i := 9) (v := .pointer (some ⟨w3.heap.size, 0, none⟩)) rfl (by kernel_rfl) (exAlloc (by rfl)) (fun _ => hT3.alloc _) ?_ AllReadyG.nil)
      change wpAnyG _ _ _ _ _ _ _ _ { tmps := #[.pointer (some ⟨l, 0, none⟩), _, _, _, _, .pointer (some ⟨gh, 0, none⟩), _, _, .pointer (some ⟨w3.heap.size, 0, none⟩), _, _, _, _, _, _, _, _, _, _, _, _, _, _, _, _, _, _, .pointer (some ⟨l, 0, none⟩), .pointer (some ⟨l, 0, none⟩), .pointer (some ⟨l, 0, none⟩), .pointer (some ⟨p, 0, none⟩), .pointer (some ⟨gh, 1, none⟩), .int .i64 (h0 : Int), .int .i64 (1 - (h0 : Int)), .agg #[.pointer (some ⟨p, 0, none⟩), .int .i64 (first : Int), .int .i64 (hlf d.many : Int)], .agg #[.pointer (some ⟨p, 0, none⟩), .int .i64 (first : Int), .int .i64 (hlf d.many : Int), .int .i64 0, .int .i64 0, .int .i64 0, .slice none 0 0], _, _, _, _, _, _, _, _, _, _, _, _, _, _, _, _, _, _, _, _, _, _, _, _, _, _, _, _, _, _, _, _, _, _, _, _, _, _, _, _, _, _, _, _, _, _, _, _, _, _, _, _, _, _, _, _, _, _, _, _, _, _, _, _, _, _, _, _], defers := [] } _
      refine wpAnyG_ready (rs := [10]) (by kernel_rfl) (by simp) (AllReadyG.skip (i := 10) rfl (by kernel_rfl) (exSt_stream (by rfl) (by rfl) (by rfl) (Rm.new w3)) (fun h => absurd rfl h) ?_ AllReadyG.nil)
      change wpAnyG _ _ _ _ _ _ _ _ { tmps := #[.pointer (some ⟨l, 0, none⟩), _, _, _, _, .pointer (some ⟨gh, 0, none⟩), _, _, .pointer (some ⟨w3.heap.size, 0, none⟩), _, _, _, _, _, _, _, _, _, _, _, _, _, _, _, _, _, _, .pointer (some ⟨l, 0, none⟩), .pointer (some ⟨l, 0, none⟩), .pointer (some ⟨l, 0, none⟩), .pointer (some ⟨p, 0, none⟩), .pointer (some ⟨gh, 1, none⟩), .int .i64 (h0 : Int), .int .i64 (1 - (h0 : Int)), .agg #[.pointer (some ⟨p, 0, none⟩), .int .i64 (first : Int), .int .i64 (hlf d.many : Int)], .agg #[.pointer (some ⟨p, 0, none⟩), .int .i64 (first : Int), .int .i64 (hlf d.many : Int), .int .i64 0, .int .i64 0, .int .i64 0, .slice none 0 0], _, _, _, _, _, _, _, _, _, _, _, _, _, _, _, _, _, _, _, _, _, _, _, _, _, _, _, _, _, _, _, _, _, _, _, _, _, _, _, _, _, _, _, _, _, _, _, _, _, _, _, _, _, _, _, _, _, _, _, _, _, _, _, _, _, _, _, _], defers := [] } _
      refine wpAnyG_done (by kernel_rfl) ⟨rfl, ?_⟩ _
      go_wp2
      go_meet
      case rel => exact ⟨_, rfl, (hT3.alloc _).setRow (fun t => absurd t (Nat.not_lt.2 hT3.size)) _, hT3.size, (Bx.new w3 _ _).toRow _⟩
    · change wpAnyG _ _ _ _ _ _ _ _ { tmps := #[.pointer (some ⟨l, 0, none⟩), _, _, _, _, .pointer (some ⟨gh, 0, none⟩), _, _, .pointer (some ⟨w2.heap.size, 0, none⟩), _, _, _, _, _, _, _, _, _, _, _, _, _, _, _, _, _, _, .pointer (some ⟨l, 0, none⟩), .pointer (some ⟨l, 0, none⟩), .pointer (some ⟨l, 0, none⟩), .pointer (some ⟨p, 0, none⟩), .pointer (some ⟨gh, 1, none⟩), .int .i64 (h0 : Int), .int .i64 (1 - (h0 : Int)), _, _, _, _, _, _, _, _, _, _, _, _, _, _, _, _, _, _, _, _, _, _, _, _, _, _, _, _, _, _, _, _, _, _, _, _, _, _, _, _, _, _, _, _, _, _, _, _, _, _, _, _, _, _, _, _, _, _, _, _, _, _, _, _, _, _, _, _, _, _], defers := [] } _
      have hT1 : Fr (fun _ => False) w2 (w2.drew.alloc (.cells #[.pointer none, .int .i64 0, .int .i64 0, .int .i64 0, .int .i64 0, .int .i64 0, .slice none 0 0] 98)) := hT0.alloc _
      refine wpAnyG_ready (rs := [7]) (by kernel_rfl) (by simp) (AllReadyG.call (i := 7) (f := 67) (args := #[.pointer (some ⟨p, 0, none⟩), .int .i64 (1 - (h0 : Int))]) rfl (by kernel_rfl) (by kernel_rfl) (hHO _ hT1) ?_ AllReadyG.nil)
      rintro e w3 ⟨rfl, hF3⟩
      have hT3 : Fr (fun _ => False) w2 w3 := hT1.trans hF3 (fun _ _ t => t)
      have hb3 : Bx w3 w2.heap.size #[.pointer none, .int .i64 0, .int .i64 0, .int .i64 0, .int .i64 0, .int .i64 0, .slice none 0 0] 98 := (Bx.new w2.drew _ _).keep hF3
      refine ⟨_, rfl, fun _ => hT3, ?_⟩
      change wpAnyG _ _ _ _ _ _ _ _ { tmps := #[.pointer (some ⟨l, 0, none⟩), _, _, _, _, .pointer (some ⟨gh, 0, none⟩), _, _, .pointer (some ⟨w2.heap.size, 0, none⟩), _, _, _, _, _, _, _, _, _, _, _, _, _, _, _, _, _, _, .pointer (some ⟨l, 0, none⟩), .pointer (some ⟨l, 0, none⟩), .pointer (some ⟨l, 0, none⟩), .pointer (some ⟨p, 0, none⟩), .pointer (some ⟨gh, 1, none⟩), .int .i64 (h0 : Int), .int .i64 (1 - (h0 : Int)), .agg #[.pointer (some ⟨p, 0, none⟩), .int .i64 (first : Int), .int .i64 (hlf d.many : Int)], _, _, _, _, _, _, _, _, _, _, _, _, _, _, _, _, _, _, _, _, _, _, _, _, _, _, _, _, _, _, _, _, _, _, _, _, _, _, _, _, _, _, _, _, _, _, _, _, _, _, _, _, _, _, _, _, _, _, _, _, _, _, _, _, _, _, _, _, _], defers := [] } _
      refine wpAnyG_take (i := 8) (v := .agg #[.pointer (some ⟨p, 0, none⟩), .int .i64 (first : Int), .int .i64 (hlf d.many : Int), .int .i64 0, .int .i64 0, .int .i64 0, .slice none 0 0]) rfl (by kernel_rfl) (by kernel_rfl) (by kernel_rfl) (by kernel_rfl) (fun _ _ _ h => by cases h.1) (.inl ⟨by rfl, fun w' hT => exBuildS (by rfl) (by rfl)⟩) hT3 ?_
      change wpAnyG _ _ _ _ _ _ _ _ { tmps := #[.pointer (some ⟨l, 0, none⟩), _, _, _, _, .pointer (some ⟨gh, 0, none⟩), _, _, .pointer (some ⟨w2.heap.size, 0, none⟩), _, _, _, _, _, _, _, _, _, _, _, _, _, _, _, _, _, _, .pointer (some ⟨l, 0, none⟩), .pointer (some ⟨l, 0, none⟩), .pointer (some ⟨l, 0, none⟩), .pointer (some ⟨p, 0, none⟩), .pointer (some ⟨gh, 1, none⟩), .int .i64 (h0 : Int), .int .i64 (1 - (h0 : Int)), .agg #[.pointer (some ⟨p, 0, none⟩), .int .i64 (first : Int), .int .i64 (hlf d.many : Int)], .agg #[.pointer (some ⟨p, 0, none⟩), .int .i64 (first : Int), .int .i64 (hlf d.many : Int), .int .i64 0, .int .i64 0, .int .i64 0, .slice none 0 0], _, _, _, _, _, _, _, _, _, _, _, _, _, _, _, _, _, _, _, _, _, _, _, _, _, _, _, _, _, _, _, _, _, _, _, _, _, _, _, _, _, _, _, _, _, _, _, _, _, _, _, _, _, _, _, _, _, _, _, _, _, _, _, _, _, _, _, _], defers := [] } _
      refine wpAnyG_ready (rs := [10]) (by kernel_rfl) (by simp) (AllReadyG.skip (i := 10) rfl (by kernel_rfl) (exSt_stream (by rfl) (by rfl) (by rfl) ⟨_, hb3, rfl⟩) (fun h => absurd rfl h) ?_ AllReadyG.nil)
      change wpAnyG _ _ _ _ _ _ _ _ { tmps := #[.pointer (some ⟨l, 0, none⟩), _, _, _, _, .pointer (some ⟨gh, 0, none⟩), _, _, .pointer (some ⟨w2.heap.size, 0, none⟩), _, _, _, _, _, _, _, _, _, _, _, _, _, _, _, _, _, _, .pointer (some ⟨l, 0, none⟩), .pointer (some ⟨l, 0, none⟩), .pointer (some ⟨l, 0, none⟩), .pointer (some ⟨p, 0, none⟩), .pointer (some ⟨gh, 1, none⟩), .int .i64 (h0 : Int), .int .i64 (1 - (h0 : Int)), .agg #[.pointer (some ⟨p, 0, none⟩), .int .i64 (first : Int), .int .i64 (hlf d.many : Int)], .agg #[.pointer (some ⟨p, 0, none⟩), .int .i64 (first : Int), .int .i64 (hlf d.many : Int), .int .i64 0, .int .i64 0, .int .i64 0, .slice none 0 0], _, _, _, _, _, _, _, _, _, _, _, _, _, _, _, _, _, _, _, _, _, _, _, _, _, _, _, _, _, _, _, _, _, _, _, _, _, _, _, _, _, _, _, _, _, _, _, _, _, _, _, _, _, _, _, _, _, _, _, _, _, _, _, _, _, _, _, _], defers := [] } _
      refine wpAnyG_done (by kernel_rfl) ⟨rfl, ?_⟩ _
      go_wp2
      go_meet
      case rel => exact ⟨_, rfl, hT3.setRow (fun t => absurd t (Nat.lt_irrefl _)) _, Nat.le_refl _, hb3.toRow _⟩
  case rest =>
    obtain ⟨g8, rfl, hcF⟩ := hcut
    have hq : Hid (Fr (fun _ => False) w wc ∧ w.heap.size ≤ gh ∧ w.heap.size ≤ g8 ∧ gh ≠ g8 ∧ Bx wc gh #[.int .i64 (G0 : Int), .int .i64 (h0 : Int)] 90 ∧ Bx wc g8 #[.pointer (some ⟨p, 0, none⟩), .int .i64 (first : Int), .int .i64 (hlf d.many : Int), .int .i64 0, .int .i64 0, .int .i64 0, .slice none 0 0] 98) := by
      obtain ⟨hF2, hgh, hs1⟩ := unhide HW2
      obtain ⟨k1, k2, k3⟩ := unhide hcF
      have := hgh.lt
      have := hF2.size
      exact hide ⟨hF2.trans k1 (fun _ _ t => t), hs1, by omega, by omega, hgh.keep k1, k3⟩
    clear hcF HW2
    obtain ⟨v1, hv⟩ : ∃ v, v = wc := ⟨_, rfl⟩
    subst hv
    have x0 : v1.cell? ⟨g8, 0, none⟩ = some (.pointer (some ⟨p, 0, none⟩)) := (unhide hq).2.2.2.2.2.cell 0
    have x1 : v1.cell? ⟨g8, 1, none⟩ = some (.int .i64 (first : Int)) := (unhide hq).2.2.2.2.2.cell 1
    have x2 : v1.cell? ⟨g8, 2, none⟩ = some (.int .i64 (hlf d.many : Int)) := (unhide hq).2.2.2.2.2.cell 2
    have y0 : v1.cell? ⟨gh, 0, none⟩ = some (.int .i64 (G0 : Int)) := (unhide hq).2.2.2.2.1.cell 0
    have HU : Hid (Calls Tryz.prog 86 #[.agg #[.pointer (some ⟨p, 0, none⟩), .int .i64 (first : Int), .int .i64 (hlf d.many : Int)], .int .i64 (G0 : Int)] v1 fun e w' => ∃ G : Nat, Hid (G0 < G ∧ G ≤ G0 + 1 + hlf d.many ∧ ∀ i, i < hlf d.many → mrk (d.look (first + i)) ≠ G) ∧ e = .returned (.tuple #[.int .i64 (G : Int), .nilIface]) ∧ Hid (Fr (fun _ => False) v1 w')) := by
      obtain ⟨hT, hl, hk, hD, hup, hcnt, h4, hm, hnum, hG0, hR, hfit, hb, HO, hho, hbd, hfi⟩ := unhide HH
      have hh1 := (hold_bd d.look).2.1
      rw [hho] at hh1
      have hh1 : h0 ≤ 1 := hh1
      have h2 := hlf_two d.many h4
      have hfl : first + hlf d.many ≤ d.many := by
        rw [hfi]
        rcases (by omega : h0 = 0 ∨ h0 = 1) with e | e <;> subst e <;> simp <;> omega
      refine hide ((unused_any v1 R p b d (hk.frame (unhide hq).1 (fun _ _ t => t) (UpR.refl _ _)) (hD.frame (unhide hq).1 (fun _ t => t.elim)) hup first (hlf d.many) G0 hfl hbd.1 hbd.2 hG0).mono ?_)
      rintro e w' ⟨G, a1, a2, a3, a4, a5⟩
      exact ⟨G, hide ⟨a1, a2, a3⟩, a4, hide a5⟩
    go_wp2_with fail
    refine (unhide HU).mono ?_
    rintro e w3 ⟨G, HG, rfl, hF3⟩
    clear HU x0 x1 x2 y0
    have z3 : w3.cell? ⟨g8, 3, none⟩ = some (.int .i64 0) := ((unhide hq).2.2.2.2.2.keep (unhide hF3)).cell 3
    have f3 : w3.frozen? ⟨g8, 3, none⟩ = false := ((unhide hq).2.2.2.2.2.keep (unhide hF3)).frozen 3
    have HA : Hid (AI w (w3.setCell ⟨g8, 3, none⟩ (.int .i64 (G : Int))) R b g8 gh G0 h0 p first (hlf d.many) G d [] ∧ w.heap.size ≤ g8 ∧ gh ≠ g8) := by
      obtain ⟨hT, hl, hk, hD, hup, hcnt, h4, hm, hnum, hG0, hR, hfit, hb, HO, hho, hbd, hfi⟩ := unhide HH
      obtain ⟨q1, q2, q3, q4, q5, q6⟩ := unhide hq
      have hF3' := unhide hF3
      have hFw : Fr (fun _ => False) w (w3.setCell ⟨g8, 3, none⟩ (.int .i64 (G : Int))) := (q1.trans hF3' (fun _ _ t => t)).setCell (p := ⟨g8, 3, none⟩) (fun t => absurd t (Nat.not_lt.2 q3)) _
      exact hide ⟨AI.nil hD hFw ((q5.keep hF3').setOther q4 3 _) ((q6.keep hF3').setCell 3 _) q2 q3, q3, q4⟩
    clear hq hF3
    go_wp2
    generalize w3.setCell ⟨g8, 3, none⟩ (.int .i64 (G : Int)) = v3 at *
    have hsm : (rs.length : Int) ≤ 140737488355328 := by have := (unhide HH).2.2.2.2.2.2.2.2.2.2.1.small; omega
    go_loopw [50] (fun iv wr => ∃ i : Nat, i ≤ rs.length ∧ iv = .int .i64 i ∧ Hid ((d.run (putsTo first G rs i)).2 = false ∧ AI w wr R b g8 gh G0 h0 p first (hlf d.many) G (d.run (putsTo first G rs i)).1 (rs.take i))) (fun iv _ => rs.length - (intOf iv).toNat)
    case atStart => exact ⟨0, Nat.zero_le _, rfl, hide ⟨rfl, (unhide HA).1⟩⟩
    case round =>
      obtain ⟨i, hi, rfl, hAI⟩ := hrel
      by_cases hlt : i < rs.length
      · have hE : ∃ bb off ao cap, ro = some ⟨bb, off, none⟩ ∧ wr.cell? ⟨bb, off + i, none⟩ = some (.slice ao rs[i].length cap) ∧ Hid (Calls Tryz.prog 43 #[.pointer (some ⟨g8, 0, none⟩), .slice ao rs[i].length cap] wr fun e w' => e = .returned (if (d.run (putsTo first G rs (i + 1))).2 then errV 5 else .nilIface) ∧
            Hid (Fin' w w' R b (d.run (putsTo first G rs (i + 1))).1 ∧ ((d.run (putsTo first G rs (i + 1))).2 = false → AI w w' R b g8 gh G0 h0 p first (hlf d.many) G (d.run (putsTo first G rs (i + 1))).1 (rs.take (i + 1))))) := by
          obtain ⟨hT, hl, hk, hD, hup, hcnt, h4, hm, hnum, hG0, hR, hfit, hb, HO, hho, hbd, hfi⟩ := unhide HH
          obtain ⟨hno, hai⟩ := unhide hAI
          obtain ⟨_, hg8, hne⟩ := unhide HA
          obtain ⟨hGa, hGb, hGn⟩ := unhide HG
          have hR' : RecsP (fun k => R k = 0 ∧ k < w.heap.size) w ro rc rs := hR.mono (fun k hk h => ⟨h, hk⟩)
          have hF : Fr (DS R) w wr := by obtain ⟨_, _, _, _, j3, _⟩ := hai; exact j3
          have hR2 := hR'.frame hF (fun k hk t => by have := t.1; omega)
          obtain ⟨bb, off, e1, _, hc⟩ := hR2.cells (by omega)
          obtain ⟨ao, cap, c1, c2, c3⟩ := hc i hlt
          refine ⟨bb, off, ao, cap, e1, c1, hide ?_⟩
          have hfa := putsTo_facts d first G rs i hno
          have hmo := nputs_mono rs hi
          rw [run_puts d first G rs i hlt hno]
          have e2 : rs.take (i + 1) = rs.take i ++ [rs[i]] := by rw [List.take_add_one, List.getElem?_eq_getElem hlt]; rfl
          rw [e2]
          have hfl : first + hlf d.many ≤ d.many := by
            have hh1 := (hold_bd d.look).2.1
            rw [hho] at hh1
            have hh1 : h0 ≤ 1 := hh1
            have h2 := hlf_two d.many h4
            rw [hfi]
            rcases (by omega : h0 = 0 ∨ h0 = 1) with e | e <;> subst e <;> simp <;> omega
          have hfit' : (strm (rs.take i ++ [rs[i]])).length ≤ 504 * hlf d.many := by
            rw [← e2]
            have := strm_take_len rs (show i + 1 ≤ rs.length from hlt)
            rw [List.take_length] at this
            omega
          refine (hai.put hT (by rw [hfa.2.1]; exact hk) (hfa.1.trans hup) ⟨by rw [hfa.2.2]; omega, by have h9 := d.run_wl (putsTo first G rs i); rw [putsTo_length] at h9; omega⟩ (by rw [hfa.2.1]; exact hfl) hbd.2 (by omega) hne hg8 ao cap rs[i] c2 c3 hfit').mono ?_
          rintro e w' ⟨q1, q2, q3⟩
          exact ⟨q1, hide ⟨q2, q3⟩⟩
        obtain ⟨bb, off, ao, cap, rfl, hcl, HP⟩ := hE
        have hilt : (i : Int) < (rs.length : Int) := by omega
        have hlb : (rs[i].length : Int) ≤ 140737488355328 := by
          have h := (unhide HH).2.2.2.2.2.2.2.2.2.2.1
          obtain ⟨_, _, _, _, hc⟩ := h.cells (by omega)
          obtain ⟨_, _, _, c2, _⟩ := hc i hlt
          have := c2.2.2; omega
        cases hr : (d.run (putsTo first G rs (i + 1))).2 with
        | true =>
          rw [hr] at HP
          have HP' : Hid (Calls Tryz.prog 43 #[.pointer (some ⟨g8, 0, none⟩), .slice ao rs[i].length cap] wr fun e w' => e = .returned (errV 5) ∧ Hid (Fin' w w' R b (d.run (putsTo first G rs (i + 1))).1)) := hide ((unhide HP).mono (fun e w' h => ⟨h.1, hide (unhide h.2).1⟩))
          have HR := hide (And.intro hr hlt)
          clear hr HP hAI
          generalize rs[i].length = X at *
          clear hlt
          go_wp2_with fail
          refine (unhide HP').mono ?_
          rintro e w5 ⟨rfl, hfin⟩
          clear HP'
          go_wp2
          go_ret
          obtain ⟨hT, hl, hk, hD, hup, hcnt, h4, hm, hnum, hG0, hR, hfit, hb, HO, hho, hbd, hfi⟩ := unhide HH
          obtain ⟨hGa, hGb, hGn⟩ := unhide HG
          obtain ⟨hr, hlt⟩ := unhide HR
          subst hfi
          exact anewPost_no hl hGa hGb hGn _ hr (run_anew_no d _ G rs _ _ (i + 1) hlt hr) (unhide hfin)
        | false =>
          rw [hr] at HP
          have HP' : Hid (Calls Tryz.prog 43 #[.pointer (some ⟨g8, 0, none⟩), .slice ao rs[i].length cap] wr fun e w' => e = .returned .nilIface ∧ Hid (AI w w' R b g8 gh G0 h0 p first (hlf d.many) G (d.run (putsTo first G rs (i + 1))).1 (rs.take (i + 1)))) := hide ((unhide HP).mono (fun e w' h => ⟨h.1, hide ((unhide h.2).2 rfl)⟩))
          have HR := hide (And.intro hr hlt)
          clear hr HP hAI
          generalize rs[i].length = X at *
          clear hlt
          go_wp2_with fail
          refine (unhide HP').mono ?_
          rintro e w5 ⟨rfl, hai5⟩
          clear HP'
          go_wp2
          exact ⟨⟨i + 1, (unhide HR).2, by go_num, hide ⟨(unhide HR).1, unhide hai5⟩⟩, by have := (unhide HR).2; simp [intOf]; omega⟩
      · obtain rfl : i = rs.length := by omega
        have hAI' := unhide hAI
        rw [List.take_length] at hAI'
        obtain ⟨d1, hd1⟩ : ∃ d1, d1 = (d.run (putsTo first G rs rs.length)).1 := ⟨_, rfl⟩
        have HD1 : Hid ((d.run (putsTo first G rs rs.length)).2 = false ∧ d1 = (d.run (putsTo first G rs rs.length)).1 ∧ d1.down = false ∧ d1.many = d.many ∧ (d1.cnt + d1.wait.length + 500000 < 576460752303423488 ∧ d1.wait.length + 500000 < 2199023255552) ∧ AI w wr R b g8 gh G0 h0 p first (hlf d.many) G d1 rs) := by
          obtain ⟨hT, hl, hk, hD, hup, hcnt, h4, hm, hnum, hG0, hR, hfit, hb, HO, hho, hbd, hfi⟩ := unhide HH
          obtain ⟨k, w1, w2, w3, w4, w5, w6, w7, w8⟩ := Dk.run_wrs (putsWs first G rs rs.length) d
          rw [← putsTo_eq, hAI'.1] at w2 w8
          rw [← putsTo_eq, ← hd1] at w3 w4 w5 w6 w7
          rw [← hd1] at w8
          have hn : (putsWs first G rs rs.length).length = nputs rs rs.length := by
            have := putsTo_length first G rs rs.length
            rw [putsTo_eq] at this
            simpa [wrs] using this
          have hk' := w2 rfl
          refine hide ⟨hAI'.1, hd1, by rw [w8]; exact hup, w5, ?_, by rw [hd1]; exact hAI'.2⟩
          rw [w6, w4, List.length_append, List.length_take]; omega
        clear hAI hAI' hlt hd1 hi
        have c0 : wr.cell? ⟨l, 0, none⟩ = some (.pointer (some ⟨p, 0, none⟩)) := by
          obtain ⟨_, _, _, _, j3, _⟩ := (unhide HD1).2.2.2.2.2
          have hl := (unhide HH).2.1
          exact ((hl.box.frame j3 (fun t => by have := t.2; have := hl.role; omega)).cell 0).trans hl.c0
        have HS1 : Hid (Calls Tryz.prog 64 #[.pointer (some ⟨p, 0, none⟩)] wr fun e w' => e = .returned (if (d1.act .sy).2 then errV 5 else .nilIface) ∧ Hid (AI w w' R b g8 gh G0 h0 p first (hlf d.many) G (d1.act .sy).1 rs)) := by
          obtain ⟨hT, hl, hk, hD, hup, hcnt, h4, hm, hnum, hG0, hR, hfit, hb, HO, hho, hbd, hfi⟩ := unhide HH
          obtain ⟨w1, w2, w3, w4, w5, w6⟩ := unhide HD1
          exact hide ((w6.sync (by rw [w4]; exact hk) w3 (by omega)).mono (fun e w' h => ⟨h.1, hide h.2⟩))
        cases hr : (d1.act .sy).2 with
        | true =>
          rw [hr] at HS1
          have HR := hide hr
          clear hr
          have HS' : Hid (Calls Tryz.prog 64 #[.pointer (some ⟨p, 0, none⟩)] wr fun e w' => e = .returned (errV 5) ∧ Hid (AI w w' R b g8 gh G0 h0 p first (hlf d.many) G (d1.act .sy).1 rs)) := HS1
          clear HS1
          go_wp2_with fail
          refine (unhide HS').mono ?_
          rintro e w5 ⟨rfl, hai5⟩
          clear HS'
          go_wp2
          go_ret
          obtain ⟨hT, hl, hk, hD, hup, hcnt, h4, hm, hnum, hG0, hR, hfit, hb, HO, hho, hbd, hfi⟩ := unhide HH
          obtain ⟨hGa, hGb, hGn⟩ := unhide HG
          obtain ⟨w1, w2, w3, w4, w5, w6⟩ := unhide HD1
          subst hfi
          refine anewPost_no hl hGa hGb hGn _ (unhide HR) ?_ (unhide hai5).fin
          rw [run_anew_ok d _ G rs _ _ w1, ← w2, Dk.run_cons_no _ _ _ (unhide HR)]
        | false =>
          rw [hr] at HS1
          have HS' : Hid (Calls Tryz.prog 64 #[.pointer (some ⟨p, 0, none⟩)] wr fun e w' => e = .returned .nilIface ∧ Hid (AI w w' R b g8 gh G0 h0 p first (hlf d.many) G (d1.act .sy).1 rs)) := HS1
          clear HS1
          have HR := hide hr
          clear hr
          go_wp2_with fail
          refine (unhide HS').mono ?_
          rintro e w5 ⟨rfl, hai5⟩
          clear HS' c0
          go_wp2
          obtain ⟨d2, hd2⟩ : ∃ d2, d2 = (d1.act .sy).1 := ⟨_, rfl⟩
          rw [← hd2] at hai5
          have hbds : h0 ≤ 1 ∧ a0 ≤ 1 := by
            have hh := hold_bd d.look
            rw [(unhide HH).2.2.2.2.2.2.2.2.2.2.2.2.2.2.1] at hh
            exact ⟨hh.2.1, hh.2.2⟩
          have HD2 : Hid (d2 = (d1.act .sy).1 ∧ d2.down = false ∧ d2.many = d.many ∧ d2.cnt + 500000 < 576460752303423488 ∧ d2.wait = []) := by
            obtain ⟨w1, w2, w3, w4, w5, w6⟩ := unhide HD1
            obtain ⟨hA, q1, q2, q3⟩ := Dk.act_sy d1
            have hr := unhide HR
            rw [hr] at q3
            rcases hA with ⟨t1, t2, t3⟩ | ⟨t0, _⟩
            · rw [← hd2] at t1 t2 t3 q1 q2 q3
              exact hide ⟨hd2, by rw [q3]; exact w3, by rw [q1]; exact w4, by rw [t3]; exact w5.1, t2⟩
            · rw [hr] at t0; cases t0
          clear hd2
          have HS : Hid (∀ w' dk, AI w w' R b g8 gh G0 h0 p first (hlf d.many) G dk rs → w'.cell? ⟨l, 0, none⟩ = some (.pointer (some ⟨p, 0, none⟩)) ∧ w'.cell? ⟨g8, 3, none⟩ = some (.int .i64 (G : Int)) ∧ w'.cell? ⟨gh, 1, none⟩ = some (.int .i64 (h0 : Int))) := by
            refine hide (fun w' dk h => ?_)
            obtain ⟨Ri, csi, j1, j2, j3, j4, j5, j6, j7, j8⟩ := h
            have hl := (unhide HH).2.1
            exact ⟨((hl.box.frame j3 (fun t => by have := t.2; have := hl.role; omega)).cell 0).trans hl.c0, (j4.box.cell 3).trans j4.c3, j6.cell 1⟩
          have HC1 : Hid (Calls Tryz.prog 87 #[.agg #[.int .i64 (G : Int), .int .i64 (1 - (h0 : Int))]] w5.drew fun e w' => ∃ g, e = .returned (.slice (some ⟨g, 0, none⟩) 512 512) ∧ Fr (fun _ => False) w5 w' ∧ Hid (Bx w' g (bytesV (hsec G (1 - h0))).toArray 5)) := by
            obtain ⟨hT, hl, hk, hD, hup, hcnt, h4, hm, hnum, hG0, hR, hfit, hb, HO, hho, hbd, hfi⟩ := unhide HH
            obtain ⟨hGa, hGb, hGn⟩ := unhide HG
            obtain ⟨_, _, _, _, j3, _⟩ := unhide hai5
            have hT5 : TabAt w5.drew := ((hT.frame j3 (fun k hk => by have := hk.1; omega) (UpR.refl _ _)).frame ((Fr.refl (fun _ => False) w5).drew) (fun _ t => t.elim) (UpR.refl _ _)).1
            have hh := hbds.1
            have hx := sector_any w5.drew hT5 G (1 - h0) (by omega) (by omega)
            rw [show ((1 - h0 : Nat) : Int) = 1 - (h0 : Int) by omega] at hx
            refine hide (hx.mono ?_)
            rintro e w' ⟨v, rfl, g, rfl, x1, x2, x3⟩
            rw [hsec_length] at *
            exact ⟨g, rfl, ((Fr.refl _ w5).drew).trans x2 (fun _ _ t => t), hide x1⟩
          have HC2 : Hid (∀ w1 g, Fr (fun _ => False) w5 w1 → Hid (Bx w1 g (bytesV (hsec G (1 - h0))).toArray 5) → Calls Tryz.prog 71 #[.pointer (some ⟨p, 0, none⟩), .int .i64 (1 - (a0 : Int)), .slice (some ⟨g, 0, none⟩) 512 512] w1 fun e w' => e = .returned (if (d2.act (.wr (1 - a0) (hsec G (1 - h0)))).2 then errV 5 else .nilIface) ∧ Hid (AI w w' R b g8 gh G0 h0 p first (hlf d.many) G (d2.act (.wr (1 - a0) (hsec G (1 - h0)))).1 rs)) := by
            obtain ⟨hT, hl, hk, hD, hup, hcnt, h4, hm, hnum, hG0, hR, hfit, hb, HO, hho, hbd, hfi⟩ := unhide HH
            obtain ⟨w1, w2, w3, w4, w5'⟩ := unhide HD2
            refine hide (fun u g hF hB => ?_)
            have hb512 := BAt.ofBx (unhide hB) (by rw [hsec_length]; omega)
            rw [hsec_length] at hb512
            have hh := hbds.2
            have hx := ((unhide hai5).keep hF).write (by rw [w3]; exact hk) w2 ⟨by omega, by rw [w5']; decide⟩ (1 - a0) (by omega) (hsec G (1 - h0)) (hsec_length _ _) _ _ hb512
            rw [show ((1 - a0 : Nat) : Int) = 1 - (a0 : Int) by omega] at hx
            exact hx.mono (fun e w' h => ⟨h.1, hide h.2⟩)
          have hw1 : IntKind.i64.wrap (1 - (h0 : Int)) = 1 - (h0 : Int) := by have := hbds.1; rw [IntKind.wrap_i64]; omega
          have hw2 : IntKind.i64.wrap (1 - (a0 : Int)) = 1 - (a0 : Int) := by have := hbds.2; rw [IntKind.wrap_i64]; omega
          have HBD := hide hbds
          clear hbds
          cases hr3 : (d2.act (.wr (1 - a0) (hsec G (1 - h0)))).2 with
          | true =>
            have HC2' : Hid (∀ w1 g, Fr (fun _ => False) w5 w1 → Hid (Bx w1 g (bytesV (hsec G (1 - h0))).toArray 5) → Calls Tryz.prog 71 #[.pointer (some ⟨p, 0, none⟩), .int .i64 (1 - (a0 : Int)), .slice (some ⟨g, 0, none⟩) 512 512] w1 fun e w' => e = .returned (errV 5) ∧ Hid (AI w w' R b g8 gh G0 h0 p first (hlf d.many) G (d2.act (.wr (1 - a0) (hsec G (1 - h0)))).1 rs)) := by rw [hr3] at HC2; exact HC2
            have HR3 := hide hr3
            clear hr3 HC2
            go_region_held3 (fun w' => w'.cell? ⟨l, 0, none⟩ = some (.pointer (some ⟨p, 0, none⟩)) ∧ w'.cell? ⟨g8, 3, none⟩ = some (.int .i64 (G : Int)) ∧ w'.cell? ⟨gh, 1, none⟩ = some (.int .i64 (h0 : Int))) (first | exact unhide HS _ _ ((unhide hai5).keep ((Fr.refl _ _).drew)) | exact unhide HS _ _ ((unhide hai5).keep k2) | exact unhide HS _ _ (unhide j3)) (first | (go_at_call 87; refine (unhide HC1).mono ?_; rintro e w6 ⟨g6, rfl, k2, k3⟩) | (go_at_call 71; refine (unhide HC2' w6 g6 k2 k3).mono ?_; rintro e w7 ⟨rfl, j3⟩; clear k2 k3))
            go_wp2
            go_ret
            obtain ⟨hT, hl, hk, hD, hup, hcnt, h4, hm, hnum, hG0, hR, hfit, hb, HO, hho, hbd, hfi⟩ := unhide HH
            obtain ⟨hGa, hGb, hGn⟩ := unhide HG
            obtain ⟨w1, w2, w3, w4, w5, w6⟩ := unhide HD1
            subst hfi
            refine anewPost_no hl hGa hGb hGn _ (unhide HR3) ?_ (unhide j3).fin
            rw [run_anew_ok d _ G rs _ _ w1, ← w2, Dk.run_cons_ok _ _ _ (unhide HR), ← (unhide HD2).1, Dk.run_cons_no _ _ _ (unhide HR3)]
          | false =>
            have HC2' : Hid (∀ w1 g, Fr (fun _ => False) w5 w1 → Hid (Bx w1 g (bytesV (hsec G (1 - h0))).toArray 5) → Calls Tryz.prog 71 #[.pointer (some ⟨p, 0, none⟩), .int .i64 (1 - (a0 : Int)), .slice (some ⟨g, 0, none⟩) 512 512] w1 fun e w' => e = .returned .nilIface ∧ Hid (AI w w' R b g8 gh G0 h0 p first (hlf d.many) G (d2.act (.wr (1 - a0) (hsec G (1 - h0)))).1 rs)) := by rw [hr3] at HC2; exact HC2
            have HR3 := hide hr3
            clear hr3 HC2
            go_region_held3 (fun w' => w'.cell? ⟨l, 0, none⟩ = some (.pointer (some ⟨p, 0, none⟩)) ∧ w'.cell? ⟨g8, 3, none⟩ = some (.int .i64 (G : Int)) ∧ w'.cell? ⟨gh, 1, none⟩ = some (.int .i64 (h0 : Int))) (first | exact unhide HS _ _ ((unhide hai5).keep ((Fr.refl _ _).drew)) | exact unhide HS _ _ ((unhide hai5).keep k2) | exact unhide HS _ _ (unhide j3)) (first | (go_at_call 87; refine (unhide HC1).mono ?_; rintro e w6 ⟨g6, rfl, k2, k3⟩) | (go_at_call 71; refine (unhide HC2' w6 g6 k2 k3).mono ?_; rintro e w7 ⟨rfl, j3⟩; clear k2 k3))
            clear HC1 HC2'
            obtain ⟨d3, hd3⟩ : ∃ d3, d3 = (d2.act (.wr (1 - a0) (hsec G (1 - h0)))).1 := ⟨_, rfl⟩
            rw [← hd3] at j3
            have HD3 : Hid (d3 = (d2.act (.wr (1 - a0) (hsec G (1 - h0)))).1 ∧ d3.down = false ∧ d3.many = d.many ∧ d3.cnt + 400000 < 576460752303423488 ∧ d3.wait.length ≤ 1) := by
              have hf := Dk.act_facts d2 (1 - a0) (hsec G (1 - h0)) (unhide HR3)
              rw [← hd3] at hf
              obtain ⟨w1, w2, w3, w4, w5⟩ := unhide HD2
              exact hide ⟨hd3, hf.1.trans w2, hf.2.1.trans w3, by rw [hf.2.2]; omega, by have h9 := d2.act_wl (.wr (1 - a0) (hsec G (1 - h0))); rw [← hd3, w5] at h9; simpa using h9⟩
            clear hd3
            have c0 : w7.cell? ⟨l, 0, none⟩ = some (.pointer (some ⟨p, 0, none⟩)) := (unhide HS _ _ (unhide j3)).1
            have HS2 : Hid (Calls Tryz.prog 64 #[.pointer (some ⟨p, 0, none⟩)] w7 fun e w' => e = .returned (if (d3.act .sy).2 then errV 5 else .nilIface) ∧ Hid (AI w w' R b g8 gh G0 h0 p first (hlf d.many) G (d3.act .sy).1 rs)) := by
              obtain ⟨hT, hl, hk, hD, hup, hcnt, h4, hm, hnum, hG0, hR, hfit, hb, HO, hho, hbd, hfi⟩ := unhide HH
              obtain ⟨w1, w2, w3, w4⟩ := unhide HD3
              exact hide (((unhide j3).sync (by rw [w3]; exact hk) w2 (by omega)).mono (fun e w' h => ⟨h.1, hide h.2⟩))
            cases hr4 : (d3.act .sy).2 with
            | true =>
              have HS2' : Hid (Calls Tryz.prog 64 #[.pointer (some ⟨p, 0, none⟩)] w7 fun e w' => e = .returned (errV 5) ∧ Hid (AI w w' R b g8 gh G0 h0 p first (hlf d.many) G (d3.act .sy).1 rs)) := by rw [hr4] at HS2; exact HS2
              have HR4 := hide hr4
              clear hr4 HS2
              go_wp2_with fail
              refine (unhide HS2').mono ?_
              rintro e w8 ⟨rfl, j8⟩
              clear HS2'
              go_wp2
              go_ret
              obtain ⟨hT, hl, hk, hD, hup, hcnt, h4, hm, hnum, hG0, hR, hfit, hb, HO, hho, hbd, hfi⟩ := unhide HH
              obtain ⟨hGa, hGb, hGn⟩ := unhide HG
              obtain ⟨w1, w2, w3, w4, w5, w6⟩ := unhide HD1
              subst hfi
              refine anewPost_no hl hGa hGb hGn _ (unhide HR4) ?_ (unhide j8).fin
              rw [run_anew_ok d _ G rs _ _ w1, ← w2, Dk.run_cons_ok _ _ _ (unhide HR), ← (unhide HD2).1, Dk.run_cons_ok _ _ _ (unhide HR3), ← (unhide HD3).1, Dk.run_one]
            | false =>
              have HS2' : Hid (Calls Tryz.prog 64 #[.pointer (some ⟨p, 0, none⟩)] w7 fun e w' => e = .returned .nilIface ∧ Hid (AI w w' R b g8 gh G0 h0 p first (hlf d.many) G (d3.act .sy).1 rs)) := by rw [hr4] at HS2; exact HS2
              have HR4 := hide hr4
              clear hr4 HS2
              go_wp2_with fail
              refine (unhide HS2').mono ?_
              rintro e w8 ⟨rfl, j8⟩
              clear HS2' c0
              obtain ⟨R8, cs8, i1, i2, i3, i4, i5, i6, i7, i8⟩ := unhide j8
              obtain ⟨ao, cap, e6, e7, e8⟩ := i4.c6
              have hl := (unhide HH).2.1
              have hb8 : Bx w8 l cs 100 := hl.box.frame i3 (fun t => by have := t.2; have := hl.role; omega)
              have hv : ∀ k, k < 10 → ∃ v, cs[k]? = some v := fun k hk => ⟨cs[k]'(by rw [hl.size]; exact hk), Array.getElem?_eq_getElem (by rw [hl.size]; exact hk)⟩
              have x0 : w8.cell? ⟨g8, 0, none⟩ = some (.pointer (some ⟨p, 0, none⟩)) := (i4.box.cell 0).trans i4.c0
              have x1 : w8.cell? ⟨g8, 1, none⟩ = some (.int .i64 (first : Int)) := (i4.box.cell 1).trans i4.c1
              have x2 : w8.cell? ⟨g8, 2, none⟩ = some (.int .i64 (hlf d.many : Int)) := (i4.box.cell 2).trans i4.c2
              have x3 : w8.cell? ⟨g8, 3, none⟩ = some (.int .i64 (G : Int)) := (i4.box.cell 3).trans i4.c3
              have x4 : w8.cell? ⟨g8, 4, none⟩ = some (.int .i64 (rs.length : Int)) := (i4.box.cell 4).trans i4.c4
              have x5 : w8.cell? ⟨g8, 5, none⟩ = some (.int .i64 (bgn (strm rs).length : Int)) := (i4.box.cell 5).trans i4.c5
              have x6 : w8.cell? ⟨g8, 6, none⟩ = some (.slice ao (aheadOf rs).length cap) := (i4.box.cell 6).trans e6
              obtain ⟨u1, hu1⟩ := hv 1 (by omega)
              have l1 : w8.cell? ⟨l, 1, none⟩ = some u1 := (hb8.cell 1).trans hu1
              have f1 : w8.frozen? ⟨l, 1, none⟩ = false := hb8.frozen 1
              obtain ⟨u2, hu2⟩ := hv 2 (by omega)
              have l2 : w8.cell? ⟨l, 2, none⟩ = some u2 := (hb8.cell 2).trans hu2
              have f2 : w8.frozen? ⟨l, 2, none⟩ = false := hb8.frozen 2
              obtain ⟨u3, hu3⟩ := hv 3 (by omega)
              have l3 : w8.cell? ⟨l, 3, none⟩ = some u3 := (hb8.cell 3).trans hu3
              have f3 : w8.frozen? ⟨l, 3, none⟩ = false := hb8.frozen 3
              obtain ⟨u4, hu4⟩ := hv 4 (by omega)
              have l4 : w8.cell? ⟨l, 4, none⟩ = some u4 := (hb8.cell 4).trans hu4
              have f4 : w8.frozen? ⟨l, 4, none⟩ = false := hb8.frozen 4
              obtain ⟨u5, hu5⟩ := hv 5 (by omega)
              have l5 : w8.cell? ⟨l, 5, none⟩ = some u5 := (hb8.cell 5).trans hu5
              have f5 : w8.frozen? ⟨l, 5, none⟩ = false := hb8.frozen 5
              obtain ⟨u6, hu6⟩ := hv 6 (by omega)
              have l6 : w8.cell? ⟨l, 6, none⟩ = some u6 := (hb8.cell 6).trans hu6
              have f6 : w8.frozen? ⟨l, 6, none⟩ = false := hb8.frozen 6
              obtain ⟨u7, hu7⟩ := hv 7 (by omega)
              have l7 : w8.cell? ⟨l, 7, none⟩ = some u7 := (hb8.cell 7).trans hu7
              have f7 : w8.frozen? ⟨l, 7, none⟩ = false := hb8.frozen 7
              have l8 : w8.cell? ⟨l, 8, none⟩ = some (.int .i64 (num : Int)) := (hb8.cell 8).trans hl.c8
              have f8 : w8.frozen? ⟨l, 8, none⟩ = false := hb8.frozen 8
              have hng : l ≠ g8 := by have := (unhide HA).2.1; omega
              have hnu : (num : Int) < 4611686018427387904 := by have := (unhide HH).2.2.2.2.2.2.2.2.1; omega
              have HE := hide (And.intro i1 (And.intro i2 (And.intro i3 (And.intro i4 (And.intro i5 (And.intro e6 (And.intro e7 (And.intro e8 (And.intro hl (And.intro hb8 hng))))))))))
              clear i1 i2 i3 i4 i5 i6 i7 i8 e6 e7 e8 hl hb8 hv hu1 hu2 hu3 hu4 hu5 hu6 hu7 HS j3
              generalize hBG : bgn (strm rs).length = BG at *
              generalize hAL : (aheadOf rs).length = AL at *
              have HBA := hide (And.intro hBG hAL)
              clear hBG hAL
              go_wp2
              go_ret
              obtain ⟨i1, i2, i3, i4, i5, e6, e7, e8, hl, hb8, hng⟩ := unhide HE
              obtain ⟨hT, hl', hk, hD, hup, hcnt, h4, hm, hnum, hG0, hR, hfit, hb, HO, hho, hbd, hfi⟩ := unhide HH
              obtain ⟨hGa, hGb, hGn⟩ := unhide HG
              obtain ⟨w1, w2, w3, w4, w5, w6⟩ := unhide HD1
              obtain ⟨hBG, hAL⟩ := unhide HBA
              have hbf := ((((((((hb8.setCell 1 (.pointer (some ⟨p, 0, none⟩))).setCell 2 (.int .i64 (first : Int))).setCell 3 (.int .i64 (hlf d.many : Int))).setCell 4 (.int .i64 (G : Int))).setCell 5 (.int .i64 (rs.length : Int))).setCell 6 (.int .i64 (BG : Int))).setCell 7 (.slice ao AL cap)).setCell 8 (.int .i64 ((num : Int) + 1)))
              have hFl := (((((((((Fr.refl (fun k => k = l) w8).setCell (p := ⟨l, 1, none⟩) (fun _ => rfl) (.pointer (some ⟨p, 0, none⟩))).setCell (p := ⟨l, 2, none⟩) (fun _ => rfl) (.int .i64 (first : Int))).setCell (p := ⟨l, 3, none⟩) (fun _ => rfl) (.int .i64 (hlf d.many : Int))).setCell (p := ⟨l, 4, none⟩) (fun _ => rfl) (.int .i64 (G : Int))).setCell (p := ⟨l, 5, none⟩) (fun _ => rfl) (.int .i64 (rs.length : Int))).setCell (p := ⟨l, 6, none⟩) (fun _ => rfl) (.int .i64 (BG : Int))).setCell (p := ⟨l, 7, none⟩) (fun _ => rfl) (.slice ao AL cap)).setCell (p := ⟨l, 8, none⟩) (fun _ => rfl) (.int .i64 ((num : Int) + 1)))
              obtain ⟨cf, hcf, s0, t0, t1, t2, t3, t4, t5, t6, t7, t8, t9⟩ := set18 cs hl.size (.pointer (some ⟨p, 0, none⟩)) (.int .i64 (first : Int)) (.int .i64 (hlf d.many : Int)) (.int .i64 (G : Int)) (.int .i64 (rs.length : Int)) (.int .i64 (BG : Int)) (.slice ao AL cap) (.int .i64 ((num : Int) + 1))
              rw [← hcf] at hbf
              clear hcf
              refine ⟨G, hGa, hGb, by rw [← hfi]; exact hGn, d3.act .sy, ?_, by rw [unhide HR4]; rfl, R8, cf, i1.frame hFl (fun k hk => by subst hk; right; rw [i2 k hl.box.lt, hl.role]; omega), i2, (i3.mono (fun _ _ t => .inl t)).trans hFl (fun _ _ t => .inr t), fun _ => ?_, fun h => by rw [unhide HR4] at h; cases h⟩
              · rw [← hfi, run_anew_ok d _ G rs _ _ w1, ← w2, Dk.run_cons_ok _ _ _ (unhide HR), ← (unhide HD2).1, Dk.run_cons_ok _ _ _ (unhide HR3), ← (unhide HD3).1, Dk.run_one]
              · rw [← hfi]
                have hbl : ∀ b off, 0 < (aheadOf rs).length → ao = some ⟨b, off, none⟩ → b ≠ l := by
                  intro b off h0 ea eb
                  obtain ⟨b', off', ea', hc⟩ := e7.2.1 h0
                  rw [ea] at ea'
                  injection ea' with ea'
                  injection ea' with q1 q2
                  subst q1; subst eb
                  have := hc 0 h0
                  rw [hb8.cell] at this
                  exact hl.nob _ _ this
                refine ⟨⟨hbf, t1, t2, t3, t4, t5, by rw [hBG]; exact t6, ao, cap, by rw [hAL]; exact t7, e7.stay (fun b off ea h0 hlt => hFl.block b hlt (hbl b off h0 ea)), fun b off h0 ea => ⟨(e8 b off (by rw [← hAL]; exact h0) ea).1, hbl b off h0 ea⟩⟩, s0, t0.trans hl.c0, t8.trans (by simp), t9.trans hl.c9, by rw [i2 l hl.box.lt]; exact hl.role⟩

end Go.Proofs.YtjkghgcdkfkekaaGreatDoor

