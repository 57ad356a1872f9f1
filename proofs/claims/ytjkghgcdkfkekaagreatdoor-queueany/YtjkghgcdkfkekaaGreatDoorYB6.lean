import Derived.Test.YtjkghgcdkfkekaaGreatDoorZX
/- Contract: Arm. -/
namespace Go.Proofs.YtjkghgcdkfkekaaGreatDoor
open Go.RowKit

section
variable {ev : Operand → Value} {o : Oper} {w : World}
theorem exMove {x : Operand} {v : Value} (ho : o.op = .move x) (hx : ev x = v) : (execOp ev o).run Tryz.prog w = .ok (.value v) w := by
  simp [execOp, ho, hx, go_sem]
theorem exMax0 {x : Operand} {n : Int} (ho : o.op = .call { callee := .builtin .max, args := #[x, .const (.int .i64 0)], argTypes := #[3, 3] }) (hx : ev x = .int .i64 n) (hc : ev (.const (.int .i64 0)) = .int .i64 0 := by rfl) : (execOp ev o).run Tryz.prog w = .ok (.value (.int .i64 (n.toNat : Int))) w := by
  simp [execOp, ho, resolve, invoke, builtin, hx, hc, max0, Result.andThen]
theorem exSt_bool {x y : Operand} {A : Addr} {q : Bool} (ho : o.op = .store 4 x y) (hx : ev x = .pointer (some A)) (hy : ev y = .bool q) (hc : ∃ v, w.cell? A = some v) (hf : w.frozen? A = false) : (execOp ev o).run Tryz.prog w = .ok .skip (w.setCell A (.bool q)) := by
  obtain ⟨u, hc⟩ := hc
  simp [execOp, ho, hx, hy, go_sem, hc, hf]
theorem exSt_int {x y : Operand} {A : Addr} {q : Int} (ho : o.op = .store 3 x y) (hx : ev x = .pointer (some A)) (hy : ev y = .int .i64 q) (hc : ∃ v, w.cell? A = some v) (hf : w.frozen? A = false) : (execOp ev o).run Tryz.prog w = .ok .skip (w.setCell A (.int .i64 q)) := by
  obtain ⟨u, hc⟩ := hc
  simp [execOp, ho, hx, hy, go_sem, hc, hf]
theorem exFd_hand_0 {x : Operand} {B : Nat} (ho : o.op = .fieldAddr 85 x 0) (hx : ev x = .pointer (some ⟨B, 0, none⟩)) : (execOp ev o).run Tryz.prog w = .ok (.value (.pointer (some ⟨B, 0, none⟩))) w := by
  simp [execOp, ho, hx, go_sem]
theorem exFd_box_4 {x : Operand} {B : Nat} (ho : o.op = .fieldAddr 83 x 4) (hx : ev x = .pointer (some ⟨B, 0, none⟩)) : (execOp ev o).run Tryz.prog w = .ok (.value (.pointer (some ⟨B, 4, none⟩))) w := by
  simp [execOp, ho, hx, go_sem]
theorem exFd_box_5 {x : Operand} {B : Nat} (ho : o.op = .fieldAddr 83 x 5) (hx : ev x = .pointer (some ⟨B, 0, none⟩)) : (execOp ev o).run Tryz.prog w = .ok (.value (.pointer (some ⟨B, 5, none⟩))) w := by
  simp [execOp, ho, hx, go_sem]
theorem exFd_box_6 {x : Operand} {B : Nat} (ho : o.op = .fieldAddr 83 x 6) (hx : ev x = .pointer (some ⟨B, 0, none⟩)) : (execOp ev o).run Tryz.prog w = .ok (.value (.pointer (some ⟨B, 6, none⟩))) w := by
  simp [execOp, ho, hx, go_sem]
end

set_option maxHeartbeats 1000000 in
set_option maxRecDepth 20000 in
theorem arm_any (w : World) (R : Nat → Nat) (p b : Nat) (d : Dk) (h : Hnd w R p b) (hD : DAt w R b d) (n : Int) (hn : n < 9223372036854775808) (dn : Bool) :
    Calls Tryz.prog 19 #[.pointer (some ⟨p, 0, none⟩), .int .i64 n, .bool dn] w fun e w' => e = .returned (.tuple #[]) ∧ DAt w' R b (d.arm n dn) ∧ Fr (fun k => k = b) w w' := by
  have hpb : p ≠ b := fun e => by have := h.role; rw [e, hD.role] at this; omega
  have lp := h.lt
  have lb := hD.lt
  have hp : ∀ w', Fr (fun k => k = b) w w' → w'.cell? ⟨p, 0, none⟩ = some (.pointer (some ⟨b, 0, none⟩)) := fun w' hT => (hT.cell (a := ⟨p, 0, none⟩) lp hpb).trans h.c0
  obtain ⟨ms, mn, Ds, Dn, ao, cap, gw, xs, hb, _⟩ := hD.box
  have hb0 : Bx w.drew b (boxC d ms mn ao cap) 83 := hb.drew
  have hb1 := hb0.setCell 4 (.bool true)
  have hb2 := hb1.setCell 5 (.int .i64 (n.toNat : Int))
  have hT0 : Fr (fun k => k = b) w w.drew := (Fr.refl _ _).drew
  have hT1 : Fr (fun k => k = b) w (w.drew.setCell ⟨b, 4, none⟩ (.bool true)) := hT0.setCell (fun _ => rfl) _
  have hT2 : Fr (fun k => k = b) w ((w.drew.setCell ⟨b, 4, none⟩ (.bool true)).setCell ⟨b, 5, none⟩ (.int .i64 (n.toNat : Int))) := hT1.setCell (fun _ => rfl) _
  have HD := hide hD
  clear hD h
  clear hb
  have HB := hide (And.intro hb0 (And.intro hb1 hb2))
  clear hb0 hb1 hb2
  have HT := hide (And.intro hT0 (And.intro hT1 hT2))
  clear hT0 hT1 hT2
  have HP := hide hp
  clear hp
  go_enter Tryz.func19, Tryz.ntmps19
  go_wp2
  have hp := unhide HP
  obtain ⟨hT0, hT1, hT2⟩ := unhide HT
  obtain ⟨hb0, hb1, hb2⟩ := unhide HB
  refine wp_normal ?_
  refine wp_region_G (k := 23) (T := Fr (fun k => k = b) w) (by kernel_rfl) ?_
  refine wpAnyG_take (i := 0) (v := .pointer (some ⟨p, 0, none⟩)) rfl (by kernel_rfl) (by kernel_rfl) (by kernel_rfl) (by kernel_rfl) (fun _ _ _ h => by cases h.1) (.inl ⟨by rfl, fun w' hT => exMove (by rfl) (by rfl)⟩) hT0 ?_
  change wpAnyG _ _ _ _ _ _ _ _ { tmps := #[.pointer (some ⟨p, 0, none⟩), .int .i64 n, .bool dn, _, _, _, .pointer (some ⟨p, 0, none⟩), _, _, _, _, _, _, _, _, _, _, _, _, _, _, _, _, _, _, _, _], defers := [] } _
  refine wpAnyG_take (i := 1) (v := .pointer (some ⟨p, 0, none⟩)) rfl (by kernel_rfl) (by kernel_rfl) (by kernel_rfl) (by kernel_rfl) (fun _ _ _ h => by cases h.1) (.inl ⟨by rfl, fun w' hT => exNil (by rfl) (by rfl)⟩) hT0 ?_
  change wpAnyG _ _ _ _ _ _ _ _ { tmps := #[.pointer (some ⟨p, 0, none⟩), .int .i64 n, .bool dn, _, _, _, .pointer (some ⟨p, 0, none⟩), .pointer (some ⟨p, 0, none⟩), _, _, _, _, _, _, _, _, _, _, _, _, _, _, _, _, _, _, _], defers := [] } _
  refine wpAnyG_take (i := 2) (v := .pointer (some ⟨p, 0, none⟩)) rfl (by kernel_rfl) (by kernel_rfl) (by kernel_rfl) (by kernel_rfl) (fun _ _ _ h => by cases h.1) (.inl ⟨by rfl, fun w' hT => exFd_hand_0 (by rfl) (by rfl)⟩) hT0 ?_
  change wpAnyG _ _ _ _ _ _ _ _ { tmps := #[.pointer (some ⟨p, 0, none⟩), .int .i64 n, .bool dn, _, _, _, .pointer (some ⟨p, 0, none⟩), .pointer (some ⟨p, 0, none⟩), .pointer (some ⟨p, 0, none⟩), _, _, _, _, _, _, _, _, _, _, _, _, _, _, _, _, _, _], defers := [] } _
  refine wpAnyG_take (i := 3) (v := .pointer (some ⟨b, 0, none⟩)) rfl (by kernel_rfl) (by kernel_rfl) (by kernel_rfl) (by kernel_rfl) (fun _ _ _ h => by cases h.1) (.inl ⟨by rfl, fun w' hT => exLd_pb (by rfl) (by rfl) (hp w' hT)⟩) hT0 ?_
  change wpAnyG _ _ _ _ _ _ _ _ { tmps := #[.pointer (some ⟨p, 0, none⟩), .int .i64 n, .bool dn, _, _, _, .pointer (some ⟨p, 0, none⟩), .pointer (some ⟨p, 0, none⟩), .pointer (some ⟨p, 0, none⟩), .pointer (some ⟨b, 0, none⟩), _, _, _, _, _, _, _, _, _, _, _, _, _, _, _, _, _], defers := [] } _
  refine wpAnyG_take (i := 4) (v := .pointer (some ⟨p, 0, none⟩)) rfl (by kernel_rfl) (by kernel_rfl) (by kernel_rfl) (by kernel_rfl) (fun _ _ _ h => by cases h.1) (.inl ⟨by rfl, fun w' hT => exMove (by rfl) (by rfl)⟩) hT0 ?_
  change wpAnyG _ _ _ _ _ _ _ _ { tmps := #[.pointer (some ⟨p, 0, none⟩), .int .i64 n, .bool dn, _, _, _, .pointer (some ⟨p, 0, none⟩), .pointer (some ⟨p, 0, none⟩), .pointer (some ⟨p, 0, none⟩), .pointer (some ⟨b, 0, none⟩), .pointer (some ⟨p, 0, none⟩), _, _, _, _, _, _, _, _, _, _, _, _, _, _, _, _], defers := [] } _
  refine wpAnyG_take (i := 5) (v := .pointer (some ⟨p, 0, none⟩)) rfl (by kernel_rfl) (by kernel_rfl) (by kernel_rfl) (by kernel_rfl) (fun _ _ _ h => by cases h.1) (.inl ⟨by rfl, fun w' hT => exNil (by rfl) (by rfl)⟩) hT0 ?_
  change wpAnyG _ _ _ _ _ _ _ _ { tmps := #[.pointer (some ⟨p, 0, none⟩), .int .i64 n, .bool dn, _, _, _, .pointer (some ⟨p, 0, none⟩), .pointer (some ⟨p, 0, none⟩), .pointer (some ⟨p, 0, none⟩), .pointer (some ⟨b, 0, none⟩), .pointer (some ⟨p, 0, none⟩), .pointer (some ⟨p, 0, none⟩), _, _, _, _, _, _, _, _, _, _, _, _, _, _, _], defers := [] } _
  refine wpAnyG_take (i := 6) (v := .pointer (some ⟨p, 0, none⟩)) rfl (by kernel_rfl) (by kernel_rfl) (by kernel_rfl) (by kernel_rfl) (fun _ _ _ h => by cases h.1) (.inl ⟨by rfl, fun w' hT => exFd_hand_0 (by rfl) (by rfl)⟩) hT0 ?_
  change wpAnyG _ _ _ _ _ _ _ _ { tmps := #[.pointer (some ⟨p, 0, none⟩), .int .i64 n, .bool dn, _, _, _, .pointer (some ⟨p, 0, none⟩), .pointer (some ⟨p, 0, none⟩), .pointer (some ⟨p, 0, none⟩), .pointer (some ⟨b, 0, none⟩), .pointer (some ⟨p, 0, none⟩), .pointer (some ⟨p, 0, none⟩), .pointer (some ⟨p, 0, none⟩), _, _, _, _, _, _, _, _, _, _, _, _, _, _], defers := [] } _
  refine wpAnyG_take (i := 7) (v := .pointer (some ⟨b, 0, none⟩)) rfl (by kernel_rfl) (by kernel_rfl) (by kernel_rfl) (by kernel_rfl) (fun _ _ _ h => by cases h.1) (.inl ⟨by rfl, fun w' hT => exLd_pb (by rfl) (by rfl) (hp w' hT)⟩) hT0 ?_
  change wpAnyG _ _ _ _ _ _ _ _ { tmps := #[.pointer (some ⟨p, 0, none⟩), .int .i64 n, .bool dn, _, _, _, .pointer (some ⟨p, 0, none⟩), .pointer (some ⟨p, 0, none⟩), .pointer (some ⟨p, 0, none⟩), .pointer (some ⟨b, 0, none⟩), .pointer (some ⟨p, 0, none⟩), .pointer (some ⟨p, 0, none⟩), .pointer (some ⟨p, 0, none⟩), .pointer (some ⟨b, 0, none⟩), _, _, _, _, _, _, _, _, _, _, _, _, _], defers := [] } _
  refine wpAnyG_take (i := 8) (v := .pointer (some ⟨p, 0, none⟩)) rfl (by kernel_rfl) (by kernel_rfl) (by kernel_rfl) (by kernel_rfl) (fun _ _ _ h => by cases h.1) (.inl ⟨by rfl, fun w' hT => exMove (by rfl) (by rfl)⟩) hT0 ?_
  change wpAnyG _ _ _ _ _ _ _ _ { tmps := #[.pointer (some ⟨p, 0, none⟩), .int .i64 n, .bool dn, _, _, _, .pointer (some ⟨p, 0, none⟩), .pointer (some ⟨p, 0, none⟩), .pointer (some ⟨p, 0, none⟩), .pointer (some ⟨b, 0, none⟩), .pointer (some ⟨p, 0, none⟩), .pointer (some ⟨p, 0, none⟩), .pointer (some ⟨p, 0, none⟩), .pointer (some ⟨b, 0, none⟩), .pointer (some ⟨p, 0, none⟩), _, _, _, _, _, _, _, _, _, _, _, _], defers := [] } _
  refine wpAnyG_take (i := 9) (v := .pointer (some ⟨p, 0, none⟩)) rfl (by kernel_rfl) (by kernel_rfl) (by kernel_rfl) (by kernel_rfl) (fun _ _ _ h => by cases h.1) (.inl ⟨by rfl, fun w' hT => exNil (by rfl) (by rfl)⟩) hT0 ?_
  change wpAnyG _ _ _ _ _ _ _ _ { tmps := #[.pointer (some ⟨p, 0, none⟩), .int .i64 n, .bool dn, _, _, _, .pointer (some ⟨p, 0, none⟩), .pointer (some ⟨p, 0, none⟩), .pointer (some ⟨p, 0, none⟩), .pointer (some ⟨b, 0, none⟩), .pointer (some ⟨p, 0, none⟩), .pointer (some ⟨p, 0, none⟩), .pointer (some ⟨p, 0, none⟩), .pointer (some ⟨b, 0, none⟩), .pointer (some ⟨p, 0, none⟩), .pointer (some ⟨p, 0, none⟩), _, _, _, _, _, _, _, _, _, _, _], defers := [] } _
  refine wpAnyG_take (i := 10) (v := .pointer (some ⟨p, 0, none⟩)) rfl (by kernel_rfl) (by kernel_rfl) (by kernel_rfl) (by kernel_rfl) (fun _ _ _ h => by cases h.1) (.inl ⟨by rfl, fun w' hT => exFd_hand_0 (by rfl) (by rfl)⟩) hT0 ?_
  change wpAnyG _ _ _ _ _ _ _ _ { tmps := #[.pointer (some ⟨p, 0, none⟩), .int .i64 n, .bool dn, _, _, _, .pointer (some ⟨p, 0, none⟩), .pointer (some ⟨p, 0, none⟩), .pointer (some ⟨p, 0, none⟩), .pointer (some ⟨b, 0, none⟩), .pointer (some ⟨p, 0, none⟩), .pointer (some ⟨p, 0, none⟩), .pointer (some ⟨p, 0, none⟩), .pointer (some ⟨b, 0, none⟩), .pointer (some ⟨p, 0, none⟩), .pointer (some ⟨p, 0, none⟩), .pointer (some ⟨p, 0, none⟩), _, _, _, _, _, _, _, _, _, _], defers := [] } _
  refine wpAnyG_take (i := 11) (v := .pointer (some ⟨b, 0, none⟩)) rfl (by kernel_rfl) (by kernel_rfl) (by kernel_rfl) (by kernel_rfl) (fun _ _ _ h => by cases h.1) (.inl ⟨by rfl, fun w' hT => exLd_pb (by rfl) (by rfl) (hp w' hT)⟩) hT0 ?_
  change wpAnyG _ _ _ _ _ _ _ _ { tmps := #[.pointer (some ⟨p, 0, none⟩), .int .i64 n, .bool dn, _, _, _, .pointer (some ⟨p, 0, none⟩), .pointer (some ⟨p, 0, none⟩), .pointer (some ⟨p, 0, none⟩), .pointer (some ⟨b, 0, none⟩), .pointer (some ⟨p, 0, none⟩), .pointer (some ⟨p, 0, none⟩), .pointer (some ⟨p, 0, none⟩), .pointer (some ⟨b, 0, none⟩), .pointer (some ⟨p, 0, none⟩), .pointer (some ⟨p, 0, none⟩), .pointer (some ⟨p, 0, none⟩), .pointer (some ⟨b, 0, none⟩), _, _, _, _, _, _, _, _, _], defers := [] } _
  refine wpAnyG_take (i := 12) (v := .int .i64 n) rfl (by kernel_rfl) (by kernel_rfl) (by kernel_rfl) (by kernel_rfl) (fun _ _ _ h => by cases h.1) (.inl ⟨by rfl, fun w' hT => exMove (by rfl) (by rfl)⟩) hT0 ?_
  change wpAnyG _ _ _ _ _ _ _ _ { tmps := #[.pointer (some ⟨p, 0, none⟩), .int .i64 n, .bool dn, _, _, _, .pointer (some ⟨p, 0, none⟩), .pointer (some ⟨p, 0, none⟩), .pointer (some ⟨p, 0, none⟩), .pointer (some ⟨b, 0, none⟩), .pointer (some ⟨p, 0, none⟩), .pointer (some ⟨p, 0, none⟩), .pointer (some ⟨p, 0, none⟩), .pointer (some ⟨b, 0, none⟩), .pointer (some ⟨p, 0, none⟩), .pointer (some ⟨p, 0, none⟩), .pointer (some ⟨p, 0, none⟩), .pointer (some ⟨b, 0, none⟩), .int .i64 n, _, _, _, _, _, _, _, _], defers := [] } _
  refine wpAnyG_take (i := 13) (v := .int .i64 (n.toNat : Int)) rfl (by kernel_rfl) (by kernel_rfl) (by kernel_rfl) (by kernel_rfl) (fun _ _ _ h => by cases h.1) (.inl ⟨by rfl, fun w' hT => exMax0 (by rfl) (by rfl)⟩) hT0 ?_
  change wpAnyG _ _ _ _ _ _ _ _ { tmps := #[.pointer (some ⟨p, 0, none⟩), .int .i64 n, .bool dn, _, _, _, .pointer (some ⟨p, 0, none⟩), .pointer (some ⟨p, 0, none⟩), .pointer (some ⟨p, 0, none⟩), .pointer (some ⟨b, 0, none⟩), .pointer (some ⟨p, 0, none⟩), .pointer (some ⟨p, 0, none⟩), .pointer (some ⟨p, 0, none⟩), .pointer (some ⟨b, 0, none⟩), .pointer (some ⟨p, 0, none⟩), .pointer (some ⟨p, 0, none⟩), .pointer (some ⟨p, 0, none⟩), .pointer (some ⟨b, 0, none⟩), .int .i64 n, .int .i64 (n.toNat : Int), _, _, _, _, _, _, _], defers := [] } _
  refine wpAnyG_take (i := 14) (v := .bool dn) rfl (by kernel_rfl) (by kernel_rfl) (by kernel_rfl) (by kernel_rfl) (fun _ _ _ h => by cases h.1) (.inl ⟨by rfl, fun w' hT => exMove (by rfl) (by rfl)⟩) hT0 ?_
  change wpAnyG _ _ _ _ _ _ _ _ { tmps := #[.pointer (some ⟨p, 0, none⟩), .int .i64 n, .bool dn, _, _, _, .pointer (some ⟨p, 0, none⟩), .pointer (some ⟨p, 0, none⟩), .pointer (some ⟨p, 0, none⟩), .pointer (some ⟨b, 0, none⟩), .pointer (some ⟨p, 0, none⟩), .pointer (some ⟨p, 0, none⟩), .pointer (some ⟨p, 0, none⟩), .pointer (some ⟨b, 0, none⟩), .pointer (some ⟨p, 0, none⟩), .pointer (some ⟨p, 0, none⟩), .pointer (some ⟨p, 0, none⟩), .pointer (some ⟨b, 0, none⟩), .int .i64 n, .int .i64 (n.toNat : Int), .bool dn, _, _, _, _, _, _], defers := [] } _
  refine wpAnyG_take (i := 15) (v := .pointer (some ⟨b, 0, none⟩)) rfl (by kernel_rfl) (by kernel_rfl) (by kernel_rfl) (by kernel_rfl) (fun _ _ _ h => by cases h.1) (.inl ⟨by rfl, fun w' hT => exNil (by rfl) (by rfl)⟩) hT0 ?_
  change wpAnyG _ _ _ _ _ _ _ _ { tmps := #[.pointer (some ⟨p, 0, none⟩), .int .i64 n, .bool dn, _, _, _, .pointer (some ⟨p, 0, none⟩), .pointer (some ⟨p, 0, none⟩), .pointer (some ⟨p, 0, none⟩), .pointer (some ⟨b, 0, none⟩), .pointer (some ⟨p, 0, none⟩), .pointer (some ⟨p, 0, none⟩), .pointer (some ⟨p, 0, none⟩), .pointer (some ⟨b, 0, none⟩), .pointer (some ⟨p, 0, none⟩), .pointer (some ⟨p, 0, none⟩), .pointer (some ⟨p, 0, none⟩), .pointer (some ⟨b, 0, none⟩), .int .i64 n, .int .i64 (n.toNat : Int), .bool dn, .pointer (some ⟨b, 0, none⟩), _, _, _, _, _], defers := [] } _
  refine wpAnyG_take (i := 16) (v := .pointer (some ⟨b, 4, none⟩)) rfl (by kernel_rfl) (by kernel_rfl) (by kernel_rfl) (by kernel_rfl) (fun _ _ _ h => by cases h.1) (.inl ⟨by rfl, fun w' hT => exFd_box_4 (by rfl) (by rfl)⟩) hT0 ?_
  change wpAnyG _ _ _ _ _ _ _ _ { tmps := #[.pointer (some ⟨p, 0, none⟩), .int .i64 n, .bool dn, _, _, _, .pointer (some ⟨p, 0, none⟩), .pointer (some ⟨p, 0, none⟩), .pointer (some ⟨p, 0, none⟩), .pointer (some ⟨b, 0, none⟩), .pointer (some ⟨p, 0, none⟩), .pointer (some ⟨p, 0, none⟩), .pointer (some ⟨p, 0, none⟩), .pointer (some ⟨b, 0, none⟩), .pointer (some ⟨p, 0, none⟩), .pointer (some ⟨p, 0, none⟩), .pointer (some ⟨p, 0, none⟩), .pointer (some ⟨b, 0, none⟩), .int .i64 n, .int .i64 (n.toNat : Int), .bool dn, .pointer (some ⟨b, 0, none⟩), .pointer (some ⟨b, 4, none⟩), _, _, _, _], defers := [] } _
  refine wpAnyG_ready (rs := [17]) (by kernel_rfl) (by simp) (AllReadyG.skip (i := 17) rfl (by kernel_rfl) (exSt_bool (by rfl) (by rfl) (by rfl) ⟨_, hb0.cell 4⟩ (hb0.frozen 4)) (fun _ => hT1) ?_ AllReadyG.nil)
  change wpAnyG _ _ _ _ _ _ _ _ { tmps := #[.pointer (some ⟨p, 0, none⟩), .int .i64 n, .bool dn, _, _, _, .pointer (some ⟨p, 0, none⟩), .pointer (some ⟨p, 0, none⟩), .pointer (some ⟨p, 0, none⟩), .pointer (some ⟨b, 0, none⟩), .pointer (some ⟨p, 0, none⟩), .pointer (some ⟨p, 0, none⟩), .pointer (some ⟨p, 0, none⟩), .pointer (some ⟨b, 0, none⟩), .pointer (some ⟨p, 0, none⟩), .pointer (some ⟨p, 0, none⟩), .pointer (some ⟨p, 0, none⟩), .pointer (some ⟨b, 0, none⟩), .int .i64 n, .int .i64 (n.toNat : Int), .bool dn, .pointer (some ⟨b, 0, none⟩), .pointer (some ⟨b, 4, none⟩), _, _, _, _], defers := [] } _
  refine wpAnyG_ready (rs := [18]) (by kernel_rfl) (by simp) (AllReadyG.value (i := 18) (v := .pointer (some ⟨b, 0, none⟩)) rfl (by kernel_rfl) (exNil (by rfl) (by rfl)) (fun _ => hT1) ?_ AllReadyG.nil)
  change wpAnyG _ _ _ _ _ _ _ _ { tmps := #[.pointer (some ⟨p, 0, none⟩), .int .i64 n, .bool dn, _, _, _, .pointer (some ⟨p, 0, none⟩), .pointer (some ⟨p, 0, none⟩), .pointer (some ⟨p, 0, none⟩), .pointer (some ⟨b, 0, none⟩), .pointer (some ⟨p, 0, none⟩), .pointer (some ⟨p, 0, none⟩), .pointer (some ⟨p, 0, none⟩), .pointer (some ⟨b, 0, none⟩), .pointer (some ⟨p, 0, none⟩), .pointer (some ⟨p, 0, none⟩), .pointer (some ⟨p, 0, none⟩), .pointer (some ⟨b, 0, none⟩), .int .i64 n, .int .i64 (n.toNat : Int), .bool dn, .pointer (some ⟨b, 0, none⟩), .pointer (some ⟨b, 4, none⟩), .pointer (some ⟨b, 0, none⟩), _, _, _], defers := [] } _
  refine wpAnyG_ready (rs := [19]) (by kernel_rfl) (by simp) (AllReadyG.value (i := 19) (v := .pointer (some ⟨b, 5, none⟩)) rfl (by kernel_rfl) (exFd_box_5 (by rfl) (by rfl)) (fun _ => hT1) ?_ AllReadyG.nil)
  change wpAnyG _ _ _ _ _ _ _ _ { tmps := #[.pointer (some ⟨p, 0, none⟩), .int .i64 n, .bool dn, _, _, _, .pointer (some ⟨p, 0, none⟩), .pointer (some ⟨p, 0, none⟩), .pointer (some ⟨p, 0, none⟩), .pointer (some ⟨b, 0, none⟩), .pointer (some ⟨p, 0, none⟩), .pointer (some ⟨p, 0, none⟩), .pointer (some ⟨p, 0, none⟩), .pointer (some ⟨b, 0, none⟩), .pointer (some ⟨p, 0, none⟩), .pointer (some ⟨p, 0, none⟩), .pointer (some ⟨p, 0, none⟩), .pointer (some ⟨b, 0, none⟩), .int .i64 n, .int .i64 (n.toNat : Int), .bool dn, .pointer (some ⟨b, 0, none⟩), .pointer (some ⟨b, 4, none⟩), .pointer (some ⟨b, 0, none⟩), .pointer (some ⟨b, 5, none⟩), _, _], defers := [] } _
  refine wpAnyG_ready (rs := [20]) (by kernel_rfl) (by simp) (AllReadyG.skip (i := 20) rfl (by kernel_rfl) (exSt_int (by rfl) (by rfl) (by rfl) ⟨_, hb1.cell 5⟩ (hb1.frozen 5)) (fun _ => hT2) ?_ AllReadyG.nil)
  change wpAnyG _ _ _ _ _ _ _ _ { tmps := #[.pointer (some ⟨p, 0, none⟩), .int .i64 n, .bool dn, _, _, _, .pointer (some ⟨p, 0, none⟩), .pointer (some ⟨p, 0, none⟩), .pointer (some ⟨p, 0, none⟩), .pointer (some ⟨b, 0, none⟩), .pointer (some ⟨p, 0, none⟩), .pointer (some ⟨p, 0, none⟩), .pointer (some ⟨p, 0, none⟩), .pointer (some ⟨b, 0, none⟩), .pointer (some ⟨p, 0, none⟩), .pointer (some ⟨p, 0, none⟩), .pointer (some ⟨p, 0, none⟩), .pointer (some ⟨b, 0, none⟩), .int .i64 n, .int .i64 (n.toNat : Int), .bool dn, .pointer (some ⟨b, 0, none⟩), .pointer (some ⟨b, 4, none⟩), .pointer (some ⟨b, 0, none⟩), .pointer (some ⟨b, 5, none⟩), _, _], defers := [] } _
  refine wpAnyG_ready (rs := [21]) (by kernel_rfl) (by simp) (AllReadyG.value (i := 21) (v := .pointer (some ⟨b, 0, none⟩)) rfl (by kernel_rfl) (exNil (by rfl) (by rfl)) (fun _ => hT2) ?_ AllReadyG.nil)
  change wpAnyG _ _ _ _ _ _ _ _ { tmps := #[.pointer (some ⟨p, 0, none⟩), .int .i64 n, .bool dn, _, _, _, .pointer (some ⟨p, 0, none⟩), .pointer (some ⟨p, 0, none⟩), .pointer (some ⟨p, 0, none⟩), .pointer (some ⟨b, 0, none⟩), .pointer (some ⟨p, 0, none⟩), .pointer (some ⟨p, 0, none⟩), .pointer (some ⟨p, 0, none⟩), .pointer (some ⟨b, 0, none⟩), .pointer (some ⟨p, 0, none⟩), .pointer (some ⟨p, 0, none⟩), .pointer (some ⟨p, 0, none⟩), .pointer (some ⟨b, 0, none⟩), .int .i64 n, .int .i64 (n.toNat : Int), .bool dn, .pointer (some ⟨b, 0, none⟩), .pointer (some ⟨b, 4, none⟩), .pointer (some ⟨b, 0, none⟩), .pointer (some ⟨b, 5, none⟩), .pointer (some ⟨b, 0, none⟩), _], defers := [] } _
  refine wpAnyG_ready (rs := [22]) (by kernel_rfl) (by simp) (AllReadyG.value (i := 22) (v := .pointer (some ⟨b, 6, none⟩)) rfl (by kernel_rfl) (exFd_box_6 (by rfl) (by rfl)) (fun _ => hT2) ?_ AllReadyG.nil)
  change wpAnyG _ _ _ _ _ _ _ _ { tmps := #[.pointer (some ⟨p, 0, none⟩), .int .i64 n, .bool dn, _, _, _, .pointer (some ⟨p, 0, none⟩), .pointer (some ⟨p, 0, none⟩), .pointer (some ⟨p, 0, none⟩), .pointer (some ⟨b, 0, none⟩), .pointer (some ⟨p, 0, none⟩), .pointer (some ⟨p, 0, none⟩), .pointer (some ⟨p, 0, none⟩), .pointer (some ⟨b, 0, none⟩), .pointer (some ⟨p, 0, none⟩), .pointer (some ⟨p, 0, none⟩), .pointer (some ⟨p, 0, none⟩), .pointer (some ⟨b, 0, none⟩), .int .i64 n, .int .i64 (n.toNat : Int), .bool dn, .pointer (some ⟨b, 0, none⟩), .pointer (some ⟨b, 4, none⟩), .pointer (some ⟨b, 0, none⟩), .pointer (some ⟨b, 5, none⟩), .pointer (some ⟨b, 0, none⟩), .pointer (some ⟨b, 6, none⟩)], defers := [] } _
  refine wpAnyG_ready (rs := [23]) (by kernel_rfl) (by simp) (AllReadyG.skip (i := 23) rfl (by kernel_rfl) (exSt_bool (by rfl) (by rfl) (by rfl) ⟨_, hb2.cell 6⟩ (hb2.frozen 6)) (fun h => absurd rfl h) ?_ AllReadyG.nil)
  refine wpAnyG_done (by kernel_rfl) ⟨rfl, ?_⟩ _
  go_end0
  refine ⟨rfl, ?_, hT2.setCell (fun _ => rfl) _⟩
  refine (unhide HD).flags (hT2.setCell (fun _ => rfl) _) true n.toNat dn d.down (by omega) (fun ms mn ao cap hb => ?_)
  exact ((hb.drew.setCell 4 (.bool true)).setCell 5 (.int .i64 (n.toNat : Int))).setCell 6 (.bool dn)

end Go.Proofs.YtjkghgcdkfkekaaGreatDoor

