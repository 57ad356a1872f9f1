import Derived.Test.YtjkghgcdkfkekaaGreatDoorYX
import Derived.Test.YtjkghgcdkfkekaaGreatDoorQG1
/- Contracts: the closure of a write, a sync's, act, Write, Sync. -/
namespace Go.Proofs.YtjkghgcdkfkekaaGreatDoor
open Go.RowKit

theorem wp_normal {P : Program} {c : Code} {Q : Exit → Act → World → Prop} {a : Act} {w : World} (h : c.wp P (fun e a' w' => e = .normal ∧ Q .normal a' w') a w) : c.wp P Q a w :=
  Code.wp_mono (fun e a' w' h => by obtain ⟨rfl, h⟩ := h; exact h) h

section
variable {ev : Operand → Value} {o : Oper} {w : World}
theorem exLd_pd {x : Operand} {A : Addr} {q : Option Addr} (ho : o.op = .load 37 x) (hx : ev x = .pointer (some A)) (hc : w.cell? A = some (.pointer q)) : (execOp ev o).run Tryz.prog w = .ok (.value (.pointer q)) w := by
  simp [execOp, ho, hx, go_sem, hc]
theorem exLd_pb {x : Operand} {A : Addr} {q : Option Addr} (ho : o.op = .load 79 x) (hx : ev x = .pointer (some A)) (hc : w.cell? A = some (.pointer q)) : (execOp ev o).run Tryz.prog w = .ok (.value (.pointer q)) w := by
  simp [execOp, ho, hx, go_sem, hc]
theorem exLd_ws {x : Operand} {A : Addr} {q : Option Addr} {n c : Nat} (ho : o.op = .load 81 x) (hx : ev x = .pointer (some A)) (hc : w.cell? A = some (.slice q n c)) : (execOp ev o).run Tryz.prog w = .ok (.value (.slice q n c)) w := by
  simp [execOp, ho, hx, go_sem, hc]
theorem exLd_bs {x : Operand} {A : Addr} {q : Option Addr} {n c : Nat} (ho : o.op = .load 28 x) (hx : ev x = .pointer (some A)) (hc : w.cell? A = some (.slice q n c)) : (execOp ev o).run Tryz.prog w = .ok (.value (.slice q n c)) w := by
  simp [execOp, ho, hx, go_sem, hc]
theorem exLd_int {x : Operand} {A : Addr} {n : Int} (ho : o.op = .load 3 x) (hx : ev x = .pointer (some A)) (hc : w.cell? A = some (.int .i64 n)) : (execOp ev o).run Tryz.prog w = .ok (.value (.int .i64 n)) w := by
  simp [execOp, ho, hx, go_sem, hc]
theorem exNil {x : Operand} {A : Addr} (ho : o.op = .nilCheck x) (hx : ev x = .pointer (some A)) : (execOp ev o).run Tryz.prog w = .ok (.value (.pointer (some A))) w := by
  simp [execOp, ho, hx, go_sem]
theorem exFd_disk_0 {x : Operand} {B : Nat} (ho : o.op = .fieldAddr 102 x 0) (hx : ev x = .pointer (some ⟨B, 0, none⟩)) : (execOp ev o).run Tryz.prog w = .ok (.value (.pointer (some ⟨B, 0, none⟩))) w := by
  simp [execOp, ho, hx, go_sem]
theorem exFd_disk_1 {x : Operand} {B : Nat} (ho : o.op = .fieldAddr 102 x 1) (hx : ev x = .pointer (some ⟨B, 0, none⟩)) : (execOp ev o).run Tryz.prog w = .ok (.value (.pointer (some ⟨B, 1, none⟩))) w := by
  simp [execOp, ho, hx, go_sem]
theorem exFd_box_3 {x : Operand} {B : Nat} (ho : o.op = .fieldAddr 83 x 3) (hx : ev x = .pointer (some ⟨B, 0, none⟩)) : (execOp ev o).run Tryz.prog w = .ok (.value (.pointer (some ⟨B, 3, none⟩))) w := by
  simp [execOp, ho, hx, go_sem]
theorem exAdd0 {x y : Operand} {a : Int} (hw : IntKind.i64.wrap a = a) (ho : o.op = .binOp .add 3 x y 3) (hx : ev x = .int .i64 0) (hy : ev y = .int .i64 a) : (execOp ev o).run Tryz.prog w = .ok (.value (.int .i64 a)) w := by
  simp [execOp, ho, hx, hy, go_sem, hw]
theorem exBuild {x y : Operand} {a : Int} {q : Option Addr} {n c : Nat} (ho : o.op = .build 87 #[(0, x), (1, y)]) (hx : ev x = .int .i64 a) (hy : ev y = .slice q n c) : (execOp ev o).run Tryz.prog w = .ok (.value (.agg #[.int .i64 a, .slice q n c])) w := by
  simp [execOp, ho, hx, hy, go_sem]
theorem exSl1 {x : Operand} {u v : Value} (ho : o.op = .buildSlice 81 1 #[(0, x)]) (hx : ev x = .agg #[u, v]) : (execOp ev o).run Tryz.prog w = .ok (.value (.slice (some ⟨w.heap.size, 0, none⟩) 1 1)) (w.alloc (.cells #[u, v] 87)) := by
  simp [execOp, ho, hx, go_sem]
theorem exApp {s x : Operand} {sv xv v : Value} {w' : World} (ho : o.op = .call { callee := .builtin .append, args := #[s, x], argTypes := #[81, 81] }) (hv : ev s = sv) (hx : ev x = xv) (hrun : (Builtin.append_ #[81, 81] o.type #[sv, xv]).run Tryz.prog w = .ok v w') : (execOp ev o).run Tryz.prog w = .ok (.value v) w' := by
  simp [execOp, ho, resolve, invoke, builtin, hv, hx, hrun, Result.andThen]
theorem exSt_ws {x y : Operand} {A : Addr} {v : Value} {q : Option Addr} {n c : Nat} (ho : o.op = .store 81 x y) (hx : ev x = .pointer (some A)) (hy : ev y = .slice q n c) (hc : w.cell? A = some v) (hf : w.frozen? A = false) : (execOp ev o).run Tryz.prog w = .ok .skip (w.setCell A (.slice q n c)) := by
  simp [execOp, ho, hx, hy, go_sem, hc, hf]
end

theorem step_update {ops : Array Oper} {o : Oper} {a : Act} {w : World} {K : Act → World → Prop} {Q : Exit → Act → World → Prop} {E : Prop} (hgd : o.guard = none) (mo xo vo : Operand) (ho : o.op = .mapUpdate 80 mo xo vo)
    {R : Nat → Nat} {m n : Nat} {f : Nat → Bs} {D : DataW Value} (h : MapAt w R m n f D) (hn : n < 1152921504606846976) (hm : R m ≠ 5) (x : Nat) (hx : x < 4294967296) (v : Value) (bs : Bs) (hs : Sec w R v bs)
    (e1 : a.eval mo = .map (some m)) (e2 : a.eval xo = .int .i64 (x : Int)) (e3 : a.eval vo = v)
    (hK : ∀ w', MapAt w' R m (n + 1) (fun c => if c = x then bs else f c) (D.put (.int .i64 (x : Int)) (.held v)) → Fr (fun k => k = m) w w' → w'.heap.size = w.heap.size → K (a.put o.dst undef) w') :
    if Region.wanted o (yielded ops a.tmps) = true then Oper.wp Tryz.prog o a w K Q else E := by
  have hw : Region.wanted o (yielded ops a.tmps) = true := by simp [Region.wanted, hgd]
  rw [if_pos hw]
  obtain ⟨w', hrun, r1, r2, r3⟩ := update_any h hn hm x hx v bs hs
  unfold Oper.wp
  simp [execOp, ho, e1, e2, e3, hrun, Result.andThen]
  exact hK w' r1 r2 r3

theorem infoW : (Tryz.prog.info? 87).map (fun i => (i.zero, i.size, i.bytes)) = some (some (.agg #[.int .i64 0, .slice none 0 0]), 2, 32) := by kernel_rfl

set_option maxHeartbeats 2000000 in
set_option maxRecDepth 20000 in
theorem write1_any (w : World) (R : Nat → Nat) (p b bx bd ba : Nat) (d : Dk) (h : Dsk w R p b d.many) (hD : DAt w R b d) (hcnt : d.cnt < 576460752303423488 ∧ d.wait.length < 2199023255552) (a : Nat) (ha : a < d.many) (bs : Bs) (hbs : bs.length = 512) (g xc : Nat) (hxc : 512 ≤ xc) (hg : R g = 5)
    (hrow : ∀ j (hj : j < bs.length), w.cell? ⟨g, j, none⟩ = some (.int .u8 (bs[j].toNat)))
    (hx : w.cell? ⟨bx, 0, none⟩ = some (.slice (some ⟨g, 0, none⟩) 512 xc)) (hd : w.cell? ⟨bd, 0, none⟩ = some (.pointer (some ⟨p, 0, none⟩))) (ha0 : w.cell? ⟨ba, 0, none⟩ = some (.int .i64 (a : Int))) (rx : R bx = 0) (rd : R bd = 0) (ra : R ba = 0) :
    Calls Tryz.prog 103 #[.pointer (some ⟨bx, 0, none⟩), .pointer (some ⟨bd, 0, none⟩), .pointer (some ⟨ba, 0, none⟩)] w fun e w' => e = .returned (.tuple #[]) ∧ ∃ R', DAt w' R' b (d.carry (.wr a bs)) ∧ UpR w R R' ∧ Fr (DS R) w w' := by
  have hlg : g < w.heap.size := World.block_lt_of_cell? _ _ (hrow 0 (by omega))
  have hsec : Sec w R (.slice (some ⟨g, 0, none⟩) 512 xc) bs := ⟨hbs, .inr ⟨g, xc, rfl, hxc, hg, hlg, hrow⟩⟩
  obtain ⟨ms, mn, Ds, Dn, ao, cap, gw, xs, hb, m3, m4, m5, m6, m7⟩ := hD.box
  have lx := World.block_lt_of_cell? _ _ hx
  have ld := World.block_lt_of_cell? _ _ hd
  have la := World.block_lt_of_cell? _ _ ha0
  have lp := h.lt
  have lb := hD.lt
  have lmn := m6.own.lt
  have hmany := hD.many
  have cb2 : w.cell? ⟨b, 2, none⟩ = some (.map (some mn)) := hb.cell 2
  have cp0 := h.c0
  have cp1 := h.c1
  have hwr : IntKind.i64.wrap (a : Int) = (a : Int) := by rw [IntKind.wrap_i64]; omega
  -- roles keep things apart
  have nmn : ∀ k, R k ≠ 3 → k ≠ mn := fun k hk e => hk (by rw [e]; exact m4)
  have hS : ∀ w', Fr (fun k => k = mn) w.drew w' → w'.cell? ⟨bd, 0, none⟩ = some (.pointer (some ⟨p, 0, none⟩)) ∧ w'.cell? ⟨p, 0, none⟩ = some (.pointer (some ⟨b, 0, none⟩)) ∧ w'.cell? ⟨b, 2, none⟩ = some (.map (some mn)) ∧ w'.cell? ⟨p, 1, none⟩ = some (.int .i64 0) ∧ w'.cell? ⟨ba, 0, none⟩ = some (.int .i64 (a : Int)) ∧ w'.cell? ⟨bx, 0, none⟩ = some (.slice (some ⟨g, 0, none⟩) 512 xc) := fun w' hF =>
    ⟨(hF.cell (a := ⟨bd, 0, none⟩) ld (nmn bd (by omega))).trans hd, (hF.cell (a := ⟨p, 0, none⟩) lp (nmn p (by rw [h.role]; omega))).trans cp0, (hF.cell (a := ⟨b, 2, none⟩) lb (nmn b (by rw [hD.role]; omega))).trans cb2, (hF.cell (a := ⟨p, 1, none⟩) lp (nmn p (by rw [h.role]; omega))).trans cp1, (hF.cell (a := ⟨ba, 0, none⟩) la (nmn ba (by omega))).trans ha0, (hF.cell (a := ⟨bx, 0, none⟩) lx (nmn bx (by omega))).trans hx⟩
  have HS := hide hS
  have hM : MapAt w.drew R mn d.cnt d.look Dn := m6.frame (S := fun _ => False) (Fr.refl _ _).drew (fun _ _ t => t) (fun t => t) (fun _ _ => rfl)
  have hsecd : Sec w.drew R (.slice (some ⟨g, 0, none⟩) 512 xc) bs := hsec.frame (S := fun _ => False) (Fr.refl _ _).drew (fun _ _ t => t) (fun _ _ => rfl)
  obtain ⟨w2, hrun, hM2, hF2, hz2⟩ := update_any hM (by omega) (by omega) a (by omega) _ bs hsecd
  have HQ := hide (And.intro hM2 (And.intro hF2 hz2))
  have HD := hide (And.intro h (And.intro hD (And.intro hb (And.intro m3 (And.intro m4 (And.intro m5 (And.intro m7 hsec)))))))
  have HC := hide (And.intro hcnt (And.intro hmany hbs))
  clear hS hM hsecd h hD hb m3 m4 m5 m6 m7 hsec hrow nmn hcnt hmany hbs hg hxc hM2 hF2 hz2
  go_enter Tryz.func103, Tryz.ntmps103
  go_wp2
  go_region_held3 (fun w' => w'.cell? ⟨bd, 0, none⟩ = some (.pointer (some ⟨p, 0, none⟩)) ∧ w'.cell? ⟨p, 0, none⟩ = some (.pointer (some ⟨b, 0, none⟩)) ∧ w'.cell? ⟨b, 2, none⟩ = some (.map (some mn)) ∧ w'.cell? ⟨p, 1, none⟩ = some (.int .i64 0) ∧ w'.cell? ⟨ba, 0, none⟩ = some (.int .i64 (a : Int)) ∧ w'.cell? ⟨bx, 0, none⟩ = some (.slice (some ⟨g, 0, none⟩) 512 xc)) (first | exact unhide HS _ (Fr.refl _ _) | exact unhide HS _ (unhide HQ).2.1) (fail)
  clear HS cb2 cp0 cp1 hrun
  have HX := hide (And.intro hx (And.intro hd ha0))
  clear hx hd ha0
  go_wp2
  obtain ⟨h, hD, hb, m3, m4, m5, m7, hsec⟩ := unhide HD
  obtain ⟨hM2, hF2, hz2⟩ := unhide HQ
  have hz2 : w2.heap.size = w.heap.size := hz2
  obtain ⟨hcnt, hmany, hbs⟩ := unhide HC
  obtain ⟨hx, hd, ha0⟩ := unhide HX
  clear HD HQ HC HX
  obtain ⟨info, hi, hzz⟩ := Option.map_eq_some_iff.1 infoW
  simp only [Prod.mk.injEq] at hzz
  obtain ⟨hz, hs, hy⟩ := hzz
  have hwc := hD.wcnt
  have hlen := m7.len
  have nmn : ∀ k, R k ≠ 3 → ¬ k = mn := fun k hk e => hk (by rw [e]; exact m4)
  have ngw : ∀ k, R k ≠ 4 → ¬ (k = gw ∧ 0 < cap) := fun k hk ⟨e, hc⟩ => hk (by rw [e]; exact (m7.role hc).1)
  have rp := h.role
  have rb := hD.role
  -- what is read stays
  have tr : ∀ w', Fr (fun k => k = gw ∧ 0 < cap) w2 w' → ∀ k i, R k ≠ 3 → R k ≠ 4 → k < w.heap.size → w'.cell? ⟨k, i, none⟩ = w.cell? ⟨k, i, none⟩ := fun w' hT k i h3 h4 hk =>
    (hT.cell (a := ⟨k, i, none⟩) (by rw [hz2]; exact hk) (ngw k h4)).trans (hF2.cell (a := ⟨k, i, none⟩) hk (nmn k h3))
  have hd : ∀ w', Fr (fun k => k = gw ∧ 0 < cap) w2 w' → w'.cell? ⟨bd, 0, none⟩ = some (.pointer (some ⟨p, 0, none⟩)) := fun w' hT => (tr w' hT bd 0 (by omega) (by omega) ld).trans hd
  have hp0 : ∀ w', Fr (fun k => k = gw ∧ 0 < cap) w2 w' → w'.cell? ⟨p, 0, none⟩ = some (.pointer (some ⟨b, 0, none⟩)) := fun w' hT => (tr w' hT p 0 (by omega) (by omega) lp).trans h.c0
  have hp1 : ∀ w', Fr (fun k => k = gw ∧ 0 < cap) w2 w' → w'.cell? ⟨p, 1, none⟩ = some (.int .i64 0) := fun w' hT => (tr w' hT p 1 (by omega) (by omega) lp).trans h.c1
  have hb3 : ∀ w', Fr (fun k => k = gw ∧ 0 < cap) w2 w' → w'.cell? ⟨b, 3, none⟩ = some (.slice ao d.wait.length cap) := fun w' hT => (tr w' hT b 3 (by omega) (by omega) lb).trans (hb.cell 3)
  have ha0 : ∀ w', Fr (fun k => k = gw ∧ 0 < cap) w2 w' → w'.cell? ⟨ba, 0, none⟩ = some (.int .i64 (a : Int)) := fun w' hT => (tr w' hT ba 0 (by omega) (by omega) la).trans ha0
  have hx0 : ∀ w', Fr (fun k => k = gw ∧ 0 < cap) w2 w' → w'.cell? ⟨bx, 0, none⟩ = some (.slice (some ⟨g, 0, none⟩) 512 xc) := fun w' hT => (tr w' hT bx 0 (by omega) (by omega) lx).trans hx
  have hbz : ∀ w', Fr (fun k => k = gw ∧ 0 < cap) w2 w' → w'.frozen? ⟨b, 3, none⟩ = false := fun w' hT => ((hT.frozen (a := ⟨b, 3, none⟩) (by rw [hz2]; exact lb) (ngw b (by omega))).trans (hF2.frozen (a := ⟨b, 3, none⟩) lb (nmn b (by omega)))).trans (hb.frozen 3)
  have hT0 : Fr (fun k => k = gw ∧ 0 < cap) w2 w2.drew := (Fr.refl _ _).drew
  have hT1 : Fr (fun k => k = gw ∧ 0 < cap) w2 (w2.drew.alloc (.cells #[.int .i64 (a : Int), .slice (some ⟨g, 0, none⟩) 512 xc] 87)) := hT0.alloc _
  have hf1 : Fr (fun k => k = mn) w (w2.drew.alloc (.cells #[.int .i64 (a : Int), .slice (some ⟨g, 0, none⟩) 512 xc] 87)) := (((Fr.refl _ w).drew.trans hF2 (fun _ _ t => t)).drew).alloc _
  have hrow1 : KRow (w2.drew.alloc (.cells #[.int .i64 (a : Int), .slice (some ⟨g, 0, none⟩) 512 xc] 87)) ao cap gw 2 (waitV xs) := m7.row.stay fun hc => hf1.block gw (m7.role hc).2 (nmn gw (by rw [(m7.role hc).1]; omega))
  have hnew := Bx.new w2.drew #[.int .i64 (a : Int), .slice (some ⟨g, 0, none⟩) 512 xc] 87
  have hsrc : Src Tryz.prog 2 81 (.slice (some ⟨w2.heap.size, 0, none⟩) 1 1) 1 [.int .i64 (a : Int), .slice (some ⟨g, 0, none⟩) 512 xc] (w2.drew.alloc (.cells #[.int .i64 (a : Int), .slice (some ⟨g, 0, none⟩) 512 xc] 87)) := by
    refine Src.ofSlice _ Tryz.underlying81 ⟨w2.heap.size, 0, none⟩ 1 1 _ rfl (fun j u hj => ?_) (fun u hu => ?_)
    · rw [Addr.add_lit, Nat.zero_add]
      have := hnew.cell j
      rw [show w2.drew.heap.size = w2.heap.size from rfl] at this
      rw [this, ← hj, List.getElem?_toArray]
    · simp at hu; rcases hu with rfl | rfl <;> rfl
  refine wp_normal ?_
  refine wp_region_G (k := 23) (T := Fr (fun k => k = gw ∧ 0 < cap) w2) (by kernel_rfl) ?_
  refine wpAnyG_take (i := 0) (v := .pointer (some ⟨p, 0, none⟩)) rfl (by kernel_rfl) (by kernel_rfl) (by kernel_rfl) (by kernel_rfl) (fun _ _ _ h => by cases h.1) (.inl ⟨by rfl, fun w' hT => exLd_pd (by rfl) (by rfl) (hd w' hT)⟩) hT0 ?_
  change wpAnyG _ _ _ _ _ _ _ _ { tmps := #[.pointer (some ⟨bx, 0, none⟩), .pointer (some ⟨bd, 0, none⟩), .pointer (some ⟨ba, 0, none⟩), _, _, _, _, _, _, _, _, _, _, _, _, _, _, .pointer (some ⟨p, 0, none⟩), _, _, _, _, _, _, _, _, _, _, _, _, _, _, _, _, _, _, _, _, _, _], defers := [] } _
  refine wpAnyG_take (i := 1) (v := .pointer (some ⟨p, 0, none⟩)) rfl (by kernel_rfl) (by kernel_rfl) (by kernel_rfl) (by kernel_rfl) (fun _ _ _ h => by cases h.1) (.inl ⟨by rfl, fun w' hT => exNil (by rfl) (by rfl)⟩) hT0 ?_
  change wpAnyG _ _ _ _ _ _ _ _ { tmps := #[.pointer (some ⟨bx, 0, none⟩), .pointer (some ⟨bd, 0, none⟩), .pointer (some ⟨ba, 0, none⟩), _, _, _, _, _, _, _, _, _, _, _, _, _, _, .pointer (some ⟨p, 0, none⟩), .pointer (some ⟨p, 0, none⟩), _, _, _, _, _, _, _, _, _, _, _, _, _, _, _, _, _, _, _, _, _], defers := [] } _
  refine wpAnyG_take (i := 2) (v := .pointer (some ⟨p, 0, none⟩)) rfl (by kernel_rfl) (by kernel_rfl) (by kernel_rfl) (by kernel_rfl) (fun _ _ _ h => by cases h.1) (.inl ⟨by rfl, fun w' hT => exFd_disk_0 (by rfl) (by rfl)⟩) hT0 ?_
  change wpAnyG _ _ _ _ _ _ _ _ { tmps := #[.pointer (some ⟨bx, 0, none⟩), .pointer (some ⟨bd, 0, none⟩), .pointer (some ⟨ba, 0, none⟩), _, _, _, _, _, _, _, _, _, _, _, _, _, _, .pointer (some ⟨p, 0, none⟩), .pointer (some ⟨p, 0, none⟩), .pointer (some ⟨p, 0, none⟩), _, _, _, _, _, _, _, _, _, _, _, _, _, _, _, _, _, _, _, _], defers := [] } _
  refine wpAnyG_take (i := 3) (v := .pointer (some ⟨b, 0, none⟩)) rfl (by kernel_rfl) (by kernel_rfl) (by kernel_rfl) (by kernel_rfl) (fun _ _ _ h => by cases h.1) (.inl ⟨by rfl, fun w' hT => exLd_pb (by rfl) (by rfl) (hp0 w' hT)⟩) hT0 ?_
  change wpAnyG _ _ _ _ _ _ _ _ { tmps := #[.pointer (some ⟨bx, 0, none⟩), .pointer (some ⟨bd, 0, none⟩), .pointer (some ⟨ba, 0, none⟩), _, _, _, _, _, _, _, _, _, _, _, _, _, _, .pointer (some ⟨p, 0, none⟩), .pointer (some ⟨p, 0, none⟩), .pointer (some ⟨p, 0, none⟩), .pointer (some ⟨b, 0, none⟩), _, _, _, _, _, _, _, _, _, _, _, _, _, _, _, _, _, _, _], defers := [] } _
  refine wpAnyG_take (i := 4) (v := .pointer (some ⟨p, 0, none⟩)) rfl (by kernel_rfl) (by kernel_rfl) (by kernel_rfl) (by kernel_rfl) (fun _ _ _ h => by cases h.1) (.inl ⟨by rfl, fun w' hT => exLd_pd (by rfl) (by rfl) (hd w' hT)⟩) hT0 ?_
  change wpAnyG _ _ _ _ _ _ _ _ { tmps := #[.pointer (some ⟨bx, 0, none⟩), .pointer (some ⟨bd, 0, none⟩), .pointer (some ⟨ba, 0, none⟩), _, _, _, _, _, _, _, _, _, _, _, _, _, _, .pointer (some ⟨p, 0, none⟩), .pointer (some ⟨p, 0, none⟩), .pointer (some ⟨p, 0, none⟩), .pointer (some ⟨b, 0, none⟩), .pointer (some ⟨p, 0, none⟩), _, _, _, _, _, _, _, _, _, _, _, _, _, _, _, _, _, _], defers := [] } _
  refine wpAnyG_take (i := 5) (v := .pointer (some ⟨p, 0, none⟩)) rfl (by kernel_rfl) (by kernel_rfl) (by kernel_rfl) (by kernel_rfl) (fun _ _ _ h => by cases h.1) (.inl ⟨by rfl, fun w' hT => exNil (by rfl) (by rfl)⟩) hT0 ?_
  change wpAnyG _ _ _ _ _ _ _ _ { tmps := #[.pointer (some ⟨bx, 0, none⟩), .pointer (some ⟨bd, 0, none⟩), .pointer (some ⟨ba, 0, none⟩), _, _, _, _, _, _, _, _, _, _, _, _, _, _, .pointer (some ⟨p, 0, none⟩), .pointer (some ⟨p, 0, none⟩), .pointer (some ⟨p, 0, none⟩), .pointer (some ⟨b, 0, none⟩), .pointer (some ⟨p, 0, none⟩), .pointer (some ⟨p, 0, none⟩), _, _, _, _, _, _, _, _, _, _, _, _, _, _, _, _, _], defers := [] } _
  refine wpAnyG_take (i := 6) (v := .pointer (some ⟨p, 0, none⟩)) rfl (by kernel_rfl) (by kernel_rfl) (by kernel_rfl) (by kernel_rfl) (fun _ _ _ h => by cases h.1) (.inl ⟨by rfl, fun w' hT => exFd_disk_0 (by rfl) (by rfl)⟩) hT0 ?_
  change wpAnyG _ _ _ _ _ _ _ _ { tmps := #[.pointer (some ⟨bx, 0, none⟩), .pointer (some ⟨bd, 0, none⟩), .pointer (some ⟨ba, 0, none⟩), _, _, _, _, _, _, _, _, _, _, _, _, _, _, .pointer (some ⟨p, 0, none⟩), .pointer (some ⟨p, 0, none⟩), .pointer (some ⟨p, 0, none⟩), .pointer (some ⟨b, 0, none⟩), .pointer (some ⟨p, 0, none⟩), .pointer (some ⟨p, 0, none⟩), .pointer (some ⟨p, 0, none⟩), _, _, _, _, _, _, _, _, _, _, _, _, _, _, _, _], defers := [] } _
  refine wpAnyG_take (i := 7) (v := .pointer (some ⟨b, 0, none⟩)) rfl (by kernel_rfl) (by kernel_rfl) (by kernel_rfl) (by kernel_rfl) (fun _ _ _ h => by cases h.1) (.inl ⟨by rfl, fun w' hT => exLd_pb (by rfl) (by rfl) (hp0 w' hT)⟩) hT0 ?_
  change wpAnyG _ _ _ _ _ _ _ _ { tmps := #[.pointer (some ⟨bx, 0, none⟩), .pointer (some ⟨bd, 0, none⟩), .pointer (some ⟨ba, 0, none⟩), _, _, _, _, _, _, _, _, _, _, _, _, _, _, .pointer (some ⟨p, 0, none⟩), .pointer (some ⟨p, 0, none⟩), .pointer (some ⟨p, 0, none⟩), .pointer (some ⟨b, 0, none⟩), .pointer (some ⟨p, 0, none⟩), .pointer (some ⟨p, 0, none⟩), .pointer (some ⟨p, 0, none⟩), .pointer (some ⟨b, 0, none⟩), _, _, _, _, _, _, _, _, _, _, _, _, _, _, _], defers := [] } _
  refine wpAnyG_take (i := 8) (v := .pointer (some ⟨b, 0, none⟩)) rfl (by kernel_rfl) (by kernel_rfl) (by kernel_rfl) (by kernel_rfl) (fun _ _ _ h => by cases h.1) (.inl ⟨by rfl, fun w' hT => exNil (by rfl) (by rfl)⟩) hT0 ?_
  change wpAnyG _ _ _ _ _ _ _ _ { tmps := #[.pointer (some ⟨bx, 0, none⟩), .pointer (some ⟨bd, 0, none⟩), .pointer (some ⟨ba, 0, none⟩), _, _, _, _, _, _, _, _, _, _, _, _, _, _, .pointer (some ⟨p, 0, none⟩), .pointer (some ⟨p, 0, none⟩), .pointer (some ⟨p, 0, none⟩), .pointer (some ⟨b, 0, none⟩), .pointer (some ⟨p, 0, none⟩), .pointer (some ⟨p, 0, none⟩), .pointer (some ⟨p, 0, none⟩), .pointer (some ⟨b, 0, none⟩), .pointer (some ⟨b, 0, none⟩), _, _, _, _, _, _, _, _, _, _, _, _, _, _], defers := [] } _
  refine wpAnyG_take (i := 9) (v := .pointer (some ⟨b, 3, none⟩)) rfl (by kernel_rfl) (by kernel_rfl) (by kernel_rfl) (by kernel_rfl) (fun _ _ _ h => by cases h.1) (.inl ⟨by rfl, fun w' hT => exFd_box_3 (by rfl) (by rfl)⟩) hT0 ?_
  change wpAnyG _ _ _ _ _ _ _ _ { tmps := #[.pointer (some ⟨bx, 0, none⟩), .pointer (some ⟨bd, 0, none⟩), .pointer (some ⟨ba, 0, none⟩), _, _, _, _, _, _, _, _, _, _, _, _, _, _, .pointer (some ⟨p, 0, none⟩), .pointer (some ⟨p, 0, none⟩), .pointer (some ⟨p, 0, none⟩), .pointer (some ⟨b, 0, none⟩), .pointer (some ⟨p, 0, none⟩), .pointer (some ⟨p, 0, none⟩), .pointer (some ⟨p, 0, none⟩), .pointer (some ⟨b, 0, none⟩), .pointer (some ⟨b, 0, none⟩), .pointer (some ⟨b, 3, none⟩), _, _, _, _, _, _, _, _, _, _, _, _, _], defers := [] } _
  refine wpAnyG_take (i := 10) (v := .slice ao d.wait.length cap) rfl (by kernel_rfl) (by kernel_rfl) (by kernel_rfl) (by kernel_rfl) (fun _ _ _ h => by cases h.1) (.inl ⟨by rfl, fun w' hT => exLd_ws (by rfl) (by rfl) (hb3 w' hT)⟩) hT0 ?_
  change wpAnyG _ _ _ _ _ _ _ _ { tmps := #[.pointer (some ⟨bx, 0, none⟩), .pointer (some ⟨bd, 0, none⟩), .pointer (some ⟨ba, 0, none⟩), _, _, _, _, _, _, _, _, _, _, _, _, _, _, .pointer (some ⟨p, 0, none⟩), .pointer (some ⟨p, 0, none⟩), .pointer (some ⟨p, 0, none⟩), .pointer (some ⟨b, 0, none⟩), .pointer (some ⟨p, 0, none⟩), .pointer (some ⟨p, 0, none⟩), .pointer (some ⟨p, 0, none⟩), .pointer (some ⟨b, 0, none⟩), .pointer (some ⟨b, 0, none⟩), .pointer (some ⟨b, 3, none⟩), .slice ao d.wait.length cap, _, _, _, _, _, _, _, _, _, _, _, _], defers := [] } _
  refine wpAnyG_take (i := 11) (v := .pointer (some ⟨p, 0, none⟩)) rfl (by kernel_rfl) (by kernel_rfl) (by kernel_rfl) (by kernel_rfl) (fun _ _ _ h => by cases h.1) (.inl ⟨by rfl, fun w' hT => exLd_pd (by rfl) (by rfl) (hd w' hT)⟩) hT0 ?_
  change wpAnyG _ _ _ _ _ _ _ _ { tmps := #[.pointer (some ⟨bx, 0, none⟩), .pointer (some ⟨bd, 0, none⟩), .pointer (some ⟨ba, 0, none⟩), _, _, _, _, _, _, _, _, _, _, _, _, _, _, .pointer (some ⟨p, 0, none⟩), .pointer (some ⟨p, 0, none⟩), .pointer (some ⟨p, 0, none⟩), .pointer (some ⟨b, 0, none⟩), .pointer (some ⟨p, 0, none⟩), .pointer (some ⟨p, 0, none⟩), .pointer (some ⟨p, 0, none⟩), .pointer (some ⟨b, 0, none⟩), .pointer (some ⟨b, 0, none⟩), .pointer (some ⟨b, 3, none⟩), .slice ao d.wait.length cap, .pointer (some ⟨p, 0, none⟩), _, _, _, _, _, _, _, _, _, _, _], defers := [] } _
  refine wpAnyG_take (i := 12) (v := .pointer (some ⟨p, 0, none⟩)) rfl (by kernel_rfl) (by kernel_rfl) (by kernel_rfl) (by kernel_rfl) (fun _ _ _ h => by cases h.1) (.inl ⟨by rfl, fun w' hT => exNil (by rfl) (by rfl)⟩) hT0 ?_
  change wpAnyG _ _ _ _ _ _ _ _ { tmps := #[.pointer (some ⟨bx, 0, none⟩), .pointer (some ⟨bd, 0, none⟩), .pointer (some ⟨ba, 0, none⟩), _, _, _, _, _, _, _, _, _, _, _, _, _, _, .pointer (some ⟨p, 0, none⟩), .pointer (some ⟨p, 0, none⟩), .pointer (some ⟨p, 0, none⟩), .pointer (some ⟨b, 0, none⟩), .pointer (some ⟨p, 0, none⟩), .pointer (some ⟨p, 0, none⟩), .pointer (some ⟨p, 0, none⟩), .pointer (some ⟨b, 0, none⟩), .pointer (some ⟨b, 0, none⟩), .pointer (some ⟨b, 3, none⟩), .slice ao d.wait.length cap, .pointer (some ⟨p, 0, none⟩), .pointer (some ⟨p, 0, none⟩), _, _, _, _, _, _, _, _, _, _], defers := [] } _
  refine wpAnyG_take (i := 13) (v := .pointer (some ⟨p, 1, none⟩)) rfl (by kernel_rfl) (by kernel_rfl) (by kernel_rfl) (by kernel_rfl) (fun _ _ _ h => by cases h.1) (.inl ⟨by rfl, fun w' hT => exFd_disk_1 (by rfl) (by rfl)⟩) hT0 ?_
  change wpAnyG _ _ _ _ _ _ _ _ { tmps := #[.pointer (some ⟨bx, 0, none⟩), .pointer (some ⟨bd, 0, none⟩), .pointer (some ⟨ba, 0, none⟩), _, _, _, _, _, _, _, _, _, _, _, _, _, _, .pointer (some ⟨p, 0, none⟩), .pointer (some ⟨p, 0, none⟩), .pointer (some ⟨p, 0, none⟩), .pointer (some ⟨b, 0, none⟩), .pointer (some ⟨p, 0, none⟩), .pointer (some ⟨p, 0, none⟩), .pointer (some ⟨p, 0, none⟩), .pointer (some ⟨b, 0, none⟩), .pointer (some ⟨b, 0, none⟩), .pointer (some ⟨b, 3, none⟩), .slice ao d.wait.length cap, .pointer (some ⟨p, 0, none⟩), .pointer (some ⟨p, 0, none⟩), .pointer (some ⟨p, 1, none⟩), _, _, _, _, _, _, _, _, _], defers := [] } _
  refine wpAnyG_take (i := 14) (v := .int .i64 0) rfl (by kernel_rfl) (by kernel_rfl) (by kernel_rfl) (by kernel_rfl) (fun _ _ _ h => by cases h.1) (.inl ⟨by rfl, fun w' hT => exLd_int (by rfl) (by rfl) (hp1 w' hT)⟩) hT0 ?_
  change wpAnyG _ _ _ _ _ _ _ _ { tmps := #[.pointer (some ⟨bx, 0, none⟩), .pointer (some ⟨bd, 0, none⟩), .pointer (some ⟨ba, 0, none⟩), _, _, _, _, _, _, _, _, _, _, _, _, _, _, .pointer (some ⟨p, 0, none⟩), .pointer (some ⟨p, 0, none⟩), .pointer (some ⟨p, 0, none⟩), .pointer (some ⟨b, 0, none⟩), .pointer (some ⟨p, 0, none⟩), .pointer (some ⟨p, 0, none⟩), .pointer (some ⟨p, 0, none⟩), .pointer (some ⟨b, 0, none⟩), .pointer (some ⟨b, 0, none⟩), .pointer (some ⟨b, 3, none⟩), .slice ao d.wait.length cap, .pointer (some ⟨p, 0, none⟩), .pointer (some ⟨p, 0, none⟩), .pointer (some ⟨p, 1, none⟩), .int .i64 0, _, _, _, _, _, _, _, _], defers := [] } _
  refine wpAnyG_take (i := 15) (v := .int .i64 (a : Int)) rfl (by kernel_rfl) (by kernel_rfl) (by kernel_rfl) (by kernel_rfl) (fun _ _ _ h => by cases h.1) (.inl ⟨by rfl, fun w' hT => exLd_int (by rfl) (by rfl) (ha0 w' hT)⟩) hT0 ?_
  change wpAnyG _ _ _ _ _ _ _ _ { tmps := #[.pointer (some ⟨bx, 0, none⟩), .pointer (some ⟨bd, 0, none⟩), .pointer (some ⟨ba, 0, none⟩), _, _, _, _, _, _, _, _, _, _, _, _, _, _, .pointer (some ⟨p, 0, none⟩), .pointer (some ⟨p, 0, none⟩), .pointer (some ⟨p, 0, none⟩), .pointer (some ⟨b, 0, none⟩), .pointer (some ⟨p, 0, none⟩), .pointer (some ⟨p, 0, none⟩), .pointer (some ⟨p, 0, none⟩), .pointer (some ⟨b, 0, none⟩), .pointer (some ⟨b, 0, none⟩), .pointer (some ⟨b, 3, none⟩), .slice ao d.wait.length cap, .pointer (some ⟨p, 0, none⟩), .pointer (some ⟨p, 0, none⟩), .pointer (some ⟨p, 1, none⟩), .int .i64 0, .int .i64 (a : Int), _, _, _, _, _, _, _], defers := [] } _
  refine wpAnyG_take (i := 16) (v := .int .i64 (a : Int)) rfl (by kernel_rfl) (by kernel_rfl) (by kernel_rfl) (by kernel_rfl) (fun _ _ _ h => by cases h.1) (.inl ⟨by rfl, fun w' hT => exAdd0 hwr (by rfl) (by rfl) (by rfl)⟩) hT0 ?_
  change wpAnyG _ _ _ _ _ _ _ _ { tmps := #[.pointer (some ⟨bx, 0, none⟩), .pointer (some ⟨bd, 0, none⟩), .pointer (some ⟨ba, 0, none⟩), _, _, _, _, _, _, _, _, _, _, _, _, _, _, .pointer (some ⟨p, 0, none⟩), .pointer (some ⟨p, 0, none⟩), .pointer (some ⟨p, 0, none⟩), .pointer (some ⟨b, 0, none⟩), .pointer (some ⟨p, 0, none⟩), .pointer (some ⟨p, 0, none⟩), .pointer (some ⟨p, 0, none⟩), .pointer (some ⟨b, 0, none⟩), .pointer (some ⟨b, 0, none⟩), .pointer (some ⟨b, 3, none⟩), .slice ao d.wait.length cap, .pointer (some ⟨p, 0, none⟩), .pointer (some ⟨p, 0, none⟩), .pointer (some ⟨p, 1, none⟩), .int .i64 0, .int .i64 (a : Int), .int .i64 (a : Int), _, _, _, _, _, _], defers := [] } _
  refine wpAnyG_take (i := 17) (v := .slice (some ⟨g, 0, none⟩) 512 xc) rfl (by kernel_rfl) (by kernel_rfl) (by kernel_rfl) (by kernel_rfl) (fun _ _ _ h => by cases h.1) (.inl ⟨by rfl, fun w' hT => exLd_bs (by rfl) (by rfl) (hx0 w' hT)⟩) hT0 ?_
  change wpAnyG _ _ _ _ _ _ _ _ { tmps := #[.pointer (some ⟨bx, 0, none⟩), .pointer (some ⟨bd, 0, none⟩), .pointer (some ⟨ba, 0, none⟩), _, _, _, _, _, _, _, _, _, _, _, _, _, _, .pointer (some ⟨p, 0, none⟩), .pointer (some ⟨p, 0, none⟩), .pointer (some ⟨p, 0, none⟩), .pointer (some ⟨b, 0, none⟩), .pointer (some ⟨p, 0, none⟩), .pointer (some ⟨p, 0, none⟩), .pointer (some ⟨p, 0, none⟩), .pointer (some ⟨b, 0, none⟩), .pointer (some ⟨b, 0, none⟩), .pointer (some ⟨b, 3, none⟩), .slice ao d.wait.length cap, .pointer (some ⟨p, 0, none⟩), .pointer (some ⟨p, 0, none⟩), .pointer (some ⟨p, 1, none⟩), .int .i64 0, .int .i64 (a : Int), .int .i64 (a : Int), .slice (some ⟨g, 0, none⟩) 512 xc, _, _, _, _, _], defers := [] } _
  refine wpAnyG_take (i := 18) (v := .agg #[.int .i64 (a : Int), .slice (some ⟨g, 0, none⟩) 512 xc]) rfl (by kernel_rfl) (by kernel_rfl) (by kernel_rfl) (by kernel_rfl) (fun _ _ _ h => by cases h.1) (.inl ⟨by rfl, fun w' hT => exBuild (by rfl) (by rfl) (by rfl)⟩) hT0 ?_
  change wpAnyG _ _ _ _ _ _ _ _ { tmps := #[.pointer (some ⟨bx, 0, none⟩), .pointer (some ⟨bd, 0, none⟩), .pointer (some ⟨ba, 0, none⟩), _, _, _, _, _, _, _, _, _, _, _, _, _, _, .pointer (some ⟨p, 0, none⟩), .pointer (some ⟨p, 0, none⟩), .pointer (some ⟨p, 0, none⟩), .pointer (some ⟨b, 0, none⟩), .pointer (some ⟨p, 0, none⟩), .pointer (some ⟨p, 0, none⟩), .pointer (some ⟨p, 0, none⟩), .pointer (some ⟨b, 0, none⟩), .pointer (some ⟨b, 0, none⟩), .pointer (some ⟨b, 3, none⟩), .slice ao d.wait.length cap, .pointer (some ⟨p, 0, none⟩), .pointer (some ⟨p, 0, none⟩), .pointer (some ⟨p, 1, none⟩), .int .i64 0, .int .i64 (a : Int), .int .i64 (a : Int), .slice (some ⟨g, 0, none⟩) 512 xc, .agg #[.int .i64 (a : Int), .slice (some ⟨g, 0, none⟩) 512 xc], _, _, _, _], defers := [] } _
  refine wpAnyG_ready (rs := [19]) (by kernel_rfl) (by simp) (AllReadyG.value (i := 19) (v := .slice (some ⟨w2.heap.size, 0, none⟩) 1 1) rfl (by kernel_rfl) (exSl1 (by rfl) (by rfl)) (fun _ => hT1) ?_ AllReadyG.nil)
  change wpAnyG _ _ _ _ _ _ _ _ { tmps := #[.pointer (some ⟨bx, 0, none⟩), .pointer (some ⟨bd, 0, none⟩), .pointer (some ⟨ba, 0, none⟩), _, _, _, _, _, _, _, _, _, _, _, _, _, _, .pointer (some ⟨p, 0, none⟩), .pointer (some ⟨p, 0, none⟩), .pointer (some ⟨p, 0, none⟩), .pointer (some ⟨b, 0, none⟩), .pointer (some ⟨p, 0, none⟩), .pointer (some ⟨p, 0, none⟩), .pointer (some ⟨p, 0, none⟩), .pointer (some ⟨b, 0, none⟩), .pointer (some ⟨b, 0, none⟩), .pointer (some ⟨b, 3, none⟩), .slice ao d.wait.length cap, .pointer (some ⟨p, 0, none⟩), .pointer (some ⟨p, 0, none⟩), .pointer (some ⟨p, 1, none⟩), .int .i64 0, .int .i64 (a : Int), .int .i64 (a : Int), .slice (some ⟨g, 0, none⟩) 512 xc, .agg #[.int .i64 (a : Int), .slice (some ⟨g, 0, none⟩) 512 xc], .slice (some ⟨w2.heap.size, 0, none⟩) 1 1, _, _, _], defers := [] } _
  obtain ⟨ao', cap', W2, g', hrun, hK, hG⟩ := append_krow (P := Tryz.prog) 81 81 81 87 info _ 2 (by omega) Tryz.underlying81 hi hz rfl hs hrow1 (n := d.wait.length) (by rw [waitV_length, hlen]) (.slice (some ⟨w2.heap.size, 0, none⟩) 1 1) [.int .i64 (a : Int), .slice (some ⟨g, 0, none⟩) 512 xc] 1 hsrc (by rw [hy]; omega) (by omega)
  have hT2 : Fr (fun k => k = gw ∧ 0 < cap) w2 W2 := by
    rcases hG with ⟨_, _, hf⟩ | ⟨_, _, hf⟩
    · exact hT1.trans hf (fun _ _ t => t)
    · exact hT1.trans hf (fun _ _ t => t.elim)
  refine wpAnyG_ready (rs := [20]) (by kernel_rfl) (by simp) (AllReadyG.value (i := 20) (v := .slice ao' (d.wait.length + 1) cap') rfl (by kernel_rfl) (exApp (by rfl) (by rfl) (by rfl) (hrun)) (fun _ => hT2) ?_ AllReadyG.nil)
  change wpAnyG _ _ _ _ _ _ _ _ { tmps := #[.pointer (some ⟨bx, 0, none⟩), .pointer (some ⟨bd, 0, none⟩), .pointer (some ⟨ba, 0, none⟩), _, _, _, _, _, _, _, _, _, _, _, _, _, _, .pointer (some ⟨p, 0, none⟩), .pointer (some ⟨p, 0, none⟩), .pointer (some ⟨p, 0, none⟩), .pointer (some ⟨b, 0, none⟩), .pointer (some ⟨p, 0, none⟩), .pointer (some ⟨p, 0, none⟩), .pointer (some ⟨p, 0, none⟩), .pointer (some ⟨b, 0, none⟩), .pointer (some ⟨b, 0, none⟩), .pointer (some ⟨b, 3, none⟩), .slice ao d.wait.length cap, .pointer (some ⟨p, 0, none⟩), .pointer (some ⟨p, 0, none⟩), .pointer (some ⟨p, 1, none⟩), .int .i64 0, .int .i64 (a : Int), .int .i64 (a : Int), .slice (some ⟨g, 0, none⟩) 512 xc, .agg #[.int .i64 (a : Int), .slice (some ⟨g, 0, none⟩) 512 xc], .slice (some ⟨w2.heap.size, 0, none⟩) 1 1, .slice ao' (d.wait.length + 1) cap', _, _], defers := [] } _
  refine wpAnyG_ready (rs := [21]) (by kernel_rfl) (by simp) (AllReadyG.value (i := 21) (v := .pointer (some ⟨b, 0, none⟩)) rfl (by kernel_rfl) (exNil (by rfl) (by rfl)) (fun _ => hT2) ?_ AllReadyG.nil)
  change wpAnyG _ _ _ _ _ _ _ _ { tmps := #[.pointer (some ⟨bx, 0, none⟩), .pointer (some ⟨bd, 0, none⟩), .pointer (some ⟨ba, 0, none⟩), _, _, _, _, _, _, _, _, _, _, _, _, _, _, .pointer (some ⟨p, 0, none⟩), .pointer (some ⟨p, 0, none⟩), .pointer (some ⟨p, 0, none⟩), .pointer (some ⟨b, 0, none⟩), .pointer (some ⟨p, 0, none⟩), .pointer (some ⟨p, 0, none⟩), .pointer (some ⟨p, 0, none⟩), .pointer (some ⟨b, 0, none⟩), .pointer (some ⟨b, 0, none⟩), .pointer (some ⟨b, 3, none⟩), .slice ao d.wait.length cap, .pointer (some ⟨p, 0, none⟩), .pointer (some ⟨p, 0, none⟩), .pointer (some ⟨p, 1, none⟩), .int .i64 0, .int .i64 (a : Int), .int .i64 (a : Int), .slice (some ⟨g, 0, none⟩) 512 xc, .agg #[.int .i64 (a : Int), .slice (some ⟨g, 0, none⟩) 512 xc], .slice (some ⟨w2.heap.size, 0, none⟩) 1 1, .slice ao' (d.wait.length + 1) cap', .pointer (some ⟨b, 0, none⟩), _], defers := [] } _
  refine wpAnyG_ready (rs := [22]) (by kernel_rfl) (by simp) (AllReadyG.value (i := 22) (v := .pointer (some ⟨b, 3, none⟩)) rfl (by kernel_rfl) (exFd_box_3 (by rfl) (by rfl)) (fun _ => hT2) ?_ AllReadyG.nil)
  change wpAnyG _ _ _ _ _ _ _ _ { tmps := #[.pointer (some ⟨bx, 0, none⟩), .pointer (some ⟨bd, 0, none⟩), .pointer (some ⟨ba, 0, none⟩), _, _, _, _, _, _, _, _, _, _, _, _, _, _, .pointer (some ⟨p, 0, none⟩), .pointer (some ⟨p, 0, none⟩), .pointer (some ⟨p, 0, none⟩), .pointer (some ⟨b, 0, none⟩), .pointer (some ⟨p, 0, none⟩), .pointer (some ⟨p, 0, none⟩), .pointer (some ⟨p, 0, none⟩), .pointer (some ⟨b, 0, none⟩), .pointer (some ⟨b, 0, none⟩), .pointer (some ⟨b, 3, none⟩), .slice ao d.wait.length cap, .pointer (some ⟨p, 0, none⟩), .pointer (some ⟨p, 0, none⟩), .pointer (some ⟨p, 1, none⟩), .int .i64 0, .int .i64 (a : Int), .int .i64 (a : Int), .slice (some ⟨g, 0, none⟩) 512 xc, .agg #[.int .i64 (a : Int), .slice (some ⟨g, 0, none⟩) 512 xc], .slice (some ⟨w2.heap.size, 0, none⟩) 1 1, .slice ao' (d.wait.length + 1) cap', .pointer (some ⟨b, 0, none⟩), .pointer (some ⟨b, 3, none⟩)], defers := [] } _
  refine wpAnyG_ready (rs := [23]) (by kernel_rfl) (by simp) (AllReadyG.skip (i := 23) rfl (by kernel_rfl) (exSt_ws (by rfl) (by rfl) (by rfl) (hb3 W2 hT2) (hbz W2 hT2)) (fun h => absurd rfl h) ?_ AllReadyG.nil)
  refine wpAnyG_done (by kernel_rfl) ⟨rfl, ?_⟩ _
  have hone : ((waitV xs ++ [.int .i64 (a : Int), .slice (some ⟨g, 0, none⟩) 512 xc]) : List Value) = waitV (xs ++ [(a, .slice (some ⟨g, 0, none⟩) 512 xc)]) := by rw [waitV_append]; rfl
  rw [hone] at hK
  have lg' : 0 < cap' := by
    have := hK.le
    rw [waitV_length, List.length_append] at this
    simp at this; omega
  have hl2 := hK.lt (by omega) lg'
  obtain ⟨R', hR', hz', hg'⟩ : ∃ R', UpR w R R' ∧ (∀ k, W2.heap.size ≤ k → R' k = 0) ∧ R' g' = 4 := by
    rcases hG with ⟨e1, e2, _⟩ | ⟨e1, _, _⟩
    · refine ⟨R, UpR.refl _ _, fun k hk => hD.zero k ?_, ?_⟩
      · have := hT2.size; omega
      · rw [e1]; exact (m7.role (by omega)).1
    · have hs1 := hT1.size
      refine ⟨upd R g' 4, fun k hk => upd_other _ _ (by omega), fun k hk => ?_, upd_same _ _ _⟩
      rw [upd_other _ _ (by omega)]
      have := hT2.size
      exact hD.zero k (by omega)
  have hF9 : Fr (DS R) w (W2.setCell ⟨b, 3, none⟩ (.slice ao' (d.wait.length + 1) cap')) := by
    refine Fr.setCell ?_ (fun _ => ⟨by rw [rb]; omega, by rw [rb]; omega⟩) _
    refine Fr.trans (S := DS R) (T := fun k => k = gw ∧ 0 < cap) (b := w2) ?_ hT2 (fun k hk t => ?_)
    · exact ((Fr.refl _ w).drew.trans hF2 (fun k hk t => by subst t; exact ⟨by omega, by omega⟩))
    · have := (m7.role t.2).1; rw [← t.1] at this; exact ⟨by omega, by omega⟩
  have hF8 : Fr (fun k => k = mn ∨ k = b ∨ (k = gw ∧ 0 < cap)) w (W2.setCell ⟨b, 3, none⟩ (.slice ao' (d.wait.length + 1) cap')) := by
    refine Fr.setCell ?_ (fun _ => .inr (.inl rfl)) _
    refine Fr.trans (T := fun k => k = gw ∧ 0 < cap) (b := w2) ?_ hT2 (fun k hk t => .inr (.inr t))
    exact ((Fr.refl _ w).drew.trans hF2 (fun k hk t => .inl t))
  have hF7 : Fr (fun k => k = b ∨ (k = gw ∧ 0 < cap)) w2 (W2.setCell ⟨b, 3, none⟩ (.slice ao' (d.wait.length + 1) cap')) := by
    refine Fr.setCell ?_ (fun _ => .inl rfl) _
    exact hT2.mono (fun k hk t => .inr t)
  have hR2 : ∀ k, k < w2.heap.size → R' k = R k := fun k hk => hR' k (by rw [← show w2.heap.size = w.heap.size from hz2]; exact hk)
  have n5 : ∀ k, R k = 5 → ¬ (k = mn ∨ k = b ∨ (k = gw ∧ 0 < cap)) := fun k hk t => by
    rcases t with rfl | rfl | t
    · omega
    · omega
    · have := (m7.role t.2).1; rw [← t.1] at this; omega
  have n5' : ∀ k, R k = 5 → ¬ (k = b ∨ (k = gw ∧ 0 < cap)) := fun k hk t => n5 k hk (.inr t)
  have hbox : Bx W2 b (boxC d ms mn ao cap) 83 := Bx.frame (w := w2) (Bx.frame (w := w.drew) hb.drew hF2 (nmn b (by omega))) hT2 (ngw b (by omega))
  have hbox2 := hbox.setCell 3 (.slice ao' (d.wait.length + 1) cap')
  have hbe : (boxC d ms mn ao cap).setIfInBounds 3 (.slice ao' (d.wait.length + 1) cap') = boxC (d.carry (.wr a bs)) ms mn ao' cap' := by simp [boxC, Dk.carry]
  rw [hbe] at hbox2
  go_end0
  refine ⟨rfl, R', ⟨fun k hk => hz' k (by simpa using hk), by rw [hR' b lb]; exact rb, ⟨ms, mn, Ds, Dn.put (.int .i64 (a : Int)) (.held (.slice (some ⟨g, 0, none⟩) 512 xc)), ao', cap', g', xs ++ [(a, .slice (some ⟨g, 0, none⟩) 512 xc)], hbox2, by rw [hR' ms m5.own.lt]; exact m3, by rw [hR' mn lmn]; exact m4, ?_, ?_, ?_⟩, hmany, hD.acts, ?_, ?_⟩, hR', hF9⟩
  · have := m5.frame (R' := R') hF8 n5 (fun t => by rcases t with rfl | rfl | t; omega; omega; have := (m7.role t.2).1; rw [← t.1] at this; omega) hR'
    exact ⟨this.own.mono (Nat.le_succ _), this.sec⟩
  · have := hM2.frame (R' := R') hF7 n5' (fun t => by rcases t with rfl | t; omega; have := (m7.role t.2).1; rw [← t.1] at this; omega) hR2
    have e : (d.carry (.wr a bs)).look = fun c => if c = a then bs else d.look c := by funext c; exact over_snoc _ _ _ _
    rw [e]; exact this
  · refine ⟨by simp [Dk.carry, hlen], hK.stay (fun _ => Below.heap_setCell _ _ _ _ ?_), fun _ => ⟨hg', by simpa using hl2⟩, fun i h1 h2 => ?_⟩
    · intro e
      have e : g' = b := e
      have := hR' b lb
      rw [← e] at this
      rw [← e] at rb
      omega
    · simp only [Dk.carry] at h2 ⊢
      by_cases hil : i < xs.length
      · rw [List.getElem_append_left hil, List.getElem_append_left (by omega)]
        have := m7.each i hil (by omega)
        exact ⟨this.1, this.2.frame hF8 n5 hR'⟩
      · have hi2 : i = xs.length := by simp at h1; omega
        subst hi2
        rw [List.getElem_append_right (by omega), List.getElem_append_right (by omega)]
        simp only [Nat.sub_self, hlen, List.getElem_cons_zero]
        exact ⟨trivial, hsec.frame hF8 n5 hR'⟩
  · intro q hq
    simp only [Dk.carry, List.mem_append, List.mem_singleton] at hq
    rcases hq with hq | rfl
    · exact hD.keys q hq
    · show a < _; omega
  · simp [Dk.carry]; exact hwc


end Go.Proofs.YtjkghgcdkfkekaaGreatDoor

/- Contracts: act, Write. -/
namespace Go.Proofs.YtjkghgcdkfkekaaGreatDoor
open Go.RowKit

/-- An error's number, as an error. -/
abbrev errV (n : Int) : Value := .iface 67 (.int .i64 n)

/-- The disk's switch is another one. -/
theorem DAt.flags {w w' : World} {R : Nat → Nat} {b : Nat} {d : Dk} (h : DAt w R b d) (hF : Fr (fun k => k = b) w w') (armed : Bool) (acts : Nat) (done down : Bool) (ha : acts < 9223372036854775808)
    (hb : ∀ ms mn ao cap, Bx w b (boxC d ms mn ao cap) 83 → Bx w' b (boxC { d with armed := armed, acts := acts, done := done, down := down } ms mn ao cap) 83) : DAt w' R b { d with armed := armed, acts := acts, done := done, down := down } := by
  have n : ∀ r k, R k = r → r ≠ 1 → ¬ k = b := fun r k hk hr e => hr (by rw [← hk, e]; exact h.role)
  obtain ⟨ms, mn, Ds, Dn, ao, cap, g, xs, hbx, m3, m4, m5, m6, m7⟩ := h.box
  exact ⟨fun k hk => h.zero k (Nat.le_trans hF.size hk), h.role, ⟨ms, mn, Ds, Dn, ao, cap, g, xs, hb ms mn ao cap hbx, m3, m4, m5.frame hF (fun k hk => n 5 k hk (by omega)) (n 2 ms m3 (by omega)) (fun _ _ => rfl), m6.frame hF (fun k hk => n 5 k hk (by omega)) (n 3 mn m4 (by omega)) (fun _ _ => rfl), m7.frame hF (fun k hk => n 5 k hk (by omega)) (fun k hk => n 4 k hk (by omega)) (fun _ _ => rfl)⟩, h.many, ha, h.keys, h.wcnt⟩

theorem frB {w : World} {b i : Nat} (v : Value) : Fr (fun k => k = b) w (w.setCell ⟨b, i, none⟩ v) := (Fr.refl (fun k => k = b) _).setCell (fun _ => rfl) _

theorem DAt.setActs {w : World} {R : Nat → Nat} {b : Nat} {d : Dk} (h : DAt w R b d) (n : Nat) (hn : n < 9223372036854775808) : DAt (w.setCell ⟨b, 5, none⟩ (.int .i64 (n : Int))) R b { d with acts := n } :=
  h.flags (frB _) d.armed n d.done d.down hn (fun _ _ _ _ hb => hb.setCell 5 _)
theorem DAt.setDown {w : World} {R : Nat → Nat} {b : Nat} {d : Dk} (h : DAt w R b d) : DAt (w.setCell ⟨b, 7, none⟩ (.bool true)) R b { d with down := true } :=
  h.flags (frB _) d.armed d.acts d.done true h.acts (fun _ _ _ _ hb => hb.setCell 7 _)

theorem dsB {w : World} {R : Nat → Nat} {b : Nat} {d : Dk} (h : DAt w R b d) : ∀ k, k = b → DS R k := fun k e => by subst e; exact ⟨by rw [h.role]; omega, by rw [h.role]; omega⟩

/-- What an act leaves. -/
def Acted (w : World) (R : Nat → Nat) (b : Nat) (r : Dk × Bool) (e : Ending) (w' : World) : Prop := e = .returned (if r.2 then errV 5 else .nilIface) ∧ ∃ R', DAt w' R' b r.1 ∧ UpR w R R' ∧ Fr (DS R) w w'

theorem Acted.later {w w1 : World} {R R1 : Nat → Nat} {b : Nat} {r : Dk × Bool} {e : Ending} {w' : World} (h : Acted w1 R1 b r e w') (hF : Fr (fun _ => False) w w1) (hU : UpR w R R1) : Acted w R b r e w' := by
  obtain ⟨h1, R', h2, h3, h4⟩ := h
  refine ⟨h1, R', h2, hU.trans h3 hF.size, (hF.mono (fun _ _ t => t.elim)).trans h4 (fun k hk t => ?_)⟩
  unfold DS at *
  rw [hU k hk] at t
  exact t

set_option maxRecDepth 20000 in
theorem act_write (w : World) (R : Nat → Nat) (b : Nat) (d : Dk) (x : Ac) (hD : DAt w R b d) (caps : Array Value)
    (hdo : ∀ w1 d1, Fr (fun k => k = b) w w1 → w1.heap.size = w.heap.size → DAt w1 R b d1 → (d1 = d ∨ d1 = { d with acts := d.acts - 1 }) → Calls Tryz.prog 103 caps w1 fun e w' => e = .returned (.tuple #[]) ∧ ∃ R', DAt w' R' b (d1.carry x) ∧ UpR w1 R R' ∧ Fr (DS R) w1 w') :
    Calls Tryz.prog 90 #[.pointer (some ⟨b, 0, none⟩), .func (Fn.func 103) #[] caps] w (Acted w R b (d.act x)) := by
  have c4 := hD.c4
  have c5 := hD.c5
  have c6 := hD.c6
  have c7 := hD.c7
  have f5 := hD.fz 5
  have f7 := hD.fz 7
  have lb := hD.lt
  have hb := dsB hD
  have hact := hD.acts
  have HD := hide hD
  have HDO := hide hdo
  clear hD hdo
  cases har : d.armed with
  | false =>
    rw [har] at c4
    have hA : d.act x = (d.carry x, false) := d.act_free x har
    rw [hA]
    have HA := hide har
    clear har hA
    go_enter Tryz.func90, Tryz.ntmps90
    go_wp2_with fail
    refine (unhide HDO _ d (Fr.refl _ _) rfl (unhide HD) (.inl rfl)).mono ?_
    rintro e w1 ⟨rfl, hP⟩
    have HP := hide hP
    clear hP c4 c5 c6 c7 f5 f7
    go_wp2
    go_ret
    exact ⟨rfl, unhide HP⟩
  | true =>
    rw [har] at c4
    by_cases h0 : d.acts = 0
    · rw [h0] at c5
      cases hdn : d.done with
      | false =>
        rw [hdn] at c6
        have hA : d.act x = ({ d with down := true }, true) := d.act_last0 x har h0 hdn
        rw [hA]
        have HA := hide (And.intro har (And.intro h0 hdn))
        clear har h0 hdn hA
        go_enter Tryz.func90, Tryz.ntmps90
        go_wp2
        go_ret
        exact ⟨rfl, R, (unhide HD).setDown, UpR.refl _ _, (frB _).mono (fun k _ e => hb k e)⟩
      | true =>
        rw [hdn] at c6
        have hA : d.act x = ({ d.carry x with down := true }, true) := d.act_last1 x har h0 hdn
        rw [hA]
        have HA := hide (And.intro har (And.intro h0 hdn))
        clear har h0 hdn hA
        go_enter Tryz.func90, Tryz.ntmps90
        go_wp2_with fail
        refine (unhide HDO _ d (Fr.refl _ _) rfl (unhide HD) (.inl rfl)).mono ?_
        rintro e w1 ⟨rfl, R1, hD1, hU1, hF1⟩
        have k7 := hD1.c7
        have g7 := hD1.fz 7
        have HP := hide (And.intro hD1 (And.intro hU1 hF1))
        clear hD1 hU1 hF1 c4 c5 c6 c7 f5 f7
        go_wp2
        go_ret
        obtain ⟨hD1, hU1, hF1⟩ := unhide HP
        exact ⟨rfl, R1, hD1.setDown, hU1, hF1.setCell (p := ⟨b, 7, none⟩) (fun _ => hb b rfl) _⟩
    · have hA : d.act x = ({ d with acts := d.acts - 1 }.carry x, false) := d.act_more x har h0
      rw [hA]
      obtain ⟨m, hm⟩ : ∃ m, d.acts = m + 1 := ⟨d.acts - 1, by omega⟩
      have c5' : w.cell? ⟨b, 5, none⟩ = some (.int .i64 ((m : Int) + 1)) := by rw [c5, hm]; rfl
      have hw : IntKind.i64.wrap (m : Int) = (m : Int) := by rw [IntKind.wrap_i64]; omega
      have hne : (((m : Int) + 1) == 0) = false := by simp; omega
      have hwd := (unhide HD).setActs m (by omega)
      have hdd : { d with acts := m } = { d with acts := d.acts - 1 } := by rw [hm]; rfl
      rw [hdd] at hwd
      have hmb : (m : Int) < 9223372036854775807 := by omega
      have HA := hide (And.intro har (And.intro h0 (And.intro hm (And.intro hwd hdd))))
      clear har h0 hm hwd hdd c5 hA hact
      go_enter Tryz.func90, Tryz.ntmps90
      go_wp2_with fail
      refine (unhide HDO _ { d with acts := d.acts - 1 } (frB _) (by simp) (unhide HA).2.2.2.1 (.inr rfl)).mono ?_
      rintro e w1 ⟨rfl, R1, hD1, hU1, hF1⟩
      have HP := hide (And.intro hD1 (And.intro hU1 hF1))
      clear hD1 hU1 hF1 c4 c5' c6 c7 f5 f7
      go_wp2
      go_ret
      obtain ⟨hD1, hU1, hF1⟩ := unhide HP
      refine ⟨rfl, R1, hD1, fun k hk => hU1 k (by simpa using hk), Fr.trans (S := DS R) (b := w.setCell ⟨b, 5, none⟩ (.int .i64 (m : Int))) ((frB _).mono (fun k _ e => hb k e)) hF1 (fun _ _ t => t)⟩

set_option maxHeartbeats 1000000 in
set_option maxRecDepth 20000 in
theorem write_any (w : World) (R : Nat → Nat) (p b : Nat) (d : Dk) (h : Dsk w R p b d.many) (hD : DAt w R b d) (hup : d.down = false) (hcnt : d.cnt < 576460752303423488 ∧ d.wait.length < 2199023255552) (a : Nat) (ha : a < d.many) (bs : Bs) (hbs : bs.length = 512) (ao : Option Addr) (cap : Nat) (hB : BAt w ao cap bs) :
    Calls Tryz.prog 71 #[.pointer (some ⟨p, 0, none⟩), .int .i64 (a : Int), .slice ao 512 cap] w (Acted w R b (d.act (.wr a bs))) := by
  obtain ⟨i0, hi, hz0, hz1, hz2⟩ := info_parts Tryz.info5
  have c0 := h.c0
  have c2 := h.c2
  have c7 := hD.c7
  rw [hup] at c7
  have lp := h.lt
  have lb := hD.lt
  have hmany := hD.many
  have hmk := makes
  have h1 : decide ((a : Int) < 0) = false := by simp
  have h2 : decide ((a : Int) ≥ (d.many : Int)) = false := by simp; omega
  have h3 : decide (d.many ≤ a) = false := by simp; omega
  have HH := hide (And.intro h (And.intro hD (And.intro hB (And.intro hbs hcnt))))
  clear h hD hB hbs hcnt
  go_enter Tryz.func71, Tryz.ntmps71
  go_wp2
  go_region_held3 (fun w' => w'.cell? ⟨w.heap.size + 1, 0, none⟩ = some (.int .i64 (a : Int)) ∧ w'.cell? ⟨w.heap.size, 0, none⟩ = some (.pointer (some ⟨p, 0, none⟩)) ∧ w'.cell? ⟨p, 2, none⟩ = some (.int .i64 (d.many : Int))) (go_keep) (fail)
  obtain ⟨W, hW⟩ : ∃ W, W = ((w.alloc (.cells #[.pointer (some ⟨p, 0, none⟩)] 37)).alloc (.cells #[.int .i64 (a : Int)] 3)).drew := ⟨_, rfl⟩
  have hFW : Fr (fun _ => False) w W := by rw [hW]; exact (((Fr.refl _ w).alloc _).alloc _).drew
  have hzW : W.heap.size = w.heap.size + 2 := by rw [hW]; simp
  have hk0 : W.cell? ⟨w.heap.size, 0, none⟩ = some (.pointer (some ⟨p, 0, none⟩)) := by rw [hW]; simp
  have hk1 : W.cell? ⟨w.heap.size + 1, 0, none⟩ = some (.int .i64 (a : Int)) := by rw [hW]; simp
  have hsrc : Src Tryz.prog 1 28 (.slice ao 512 cap) bs.length (bytesV bs) W := by
    have := src_slice Tryz.underlying28 W ao cap bs ((unhide HH).2.2.1.later hFW).2.1
    rw [(unhide HH).2.2.2.1] at this ⊢
    exact this
  have hkp : W.cell? ⟨p, 0, none⟩ = some (.pointer (some ⟨b, 0, none⟩)) := (hFW.cell (a := ⟨p, 0, none⟩) lp (fun t => t)).trans c0
  rw [← hW]
  have HW := hide (And.intro hFW (And.intro hzW (And.intro hk0 (And.intro hk1 hsrc))))
  clear hW hFW hzW hk0 hk1 hsrc c0 c2 c7
  go_wp2_with (at_builtin; refine wpList_append_row _ rfl (.const (.slice none 0 0)) (.tmp 34) 28 28 rfl 5 i0 Tryz.underlying28 hi hz0 hz1 hz2 (ao := none) (cap := 0) (g := 0) (bs := []) rfl (Row.nil _ _) _ bs rfl (unhide HW).2.2.2.2 (by rw [(unhide HH).2.2.2.1]; simp) ?next)
  case next =>
    intro ao' cap' w' g' hrow hfr hg
    have hl512 : bs.length = 512 := (unhide HH).2.2.2.1
    rw [hl512] at hrow ⊢
    obtain ⟨ao0, cap0, hv0, h512, hmx, had, hroom⟩ := hrow.shape
    injection hv0 with e1 e2 e3
    subst e1 e3
    have hao := had (by omega)
    subst hao
    have hgn : W.heap.size ≤ g' := by rcases hg with ⟨_, e⟩ | hg; omega; exact hg
    have hfr' : Fr (fun _ => False) W w' := hfr.mono (fun k _ t => by omega)
    have hkp' : w'.cell? ⟨p, 0, none⟩ = some (.pointer (some ⟨b, 0, none⟩)) := (hfr'.cell (a := ⟨p, 0, none⟩) (World.block_lt_of_cell? _ _ hkp) (fun t => t)).trans hkp
    have hk0' : w'.cell? ⟨w.heap.size, 0, none⟩ = some (.pointer (some ⟨p, 0, none⟩)) := (hfr'.cell (a := ⟨w.heap.size, 0, none⟩) (World.block_lt_of_cell? _ _ (unhide HW).2.2.1) (fun t => t)).trans (unhide HW).2.2.1
    have lk0 := World.block_lt_of_cell? _ _ hk0'
    have lp' := World.block_lt_of_cell? _ _ hkp'
    have HR := hide (And.intro hrow (And.intro hfr' (And.intro hgn (And.intro h512 hl512))))
    clear hrow hfr hg hfr' hgn h512 hl512 hroom hmx had hkp e2
    go_wp2_with fail
    obtain ⟨hrow, hfr', hgn, h512, hl512⟩ := unhide HR
    obtain ⟨hFW, hzW, hk0, hk1, _⟩ := unhide HW
    obtain ⟨hh, hD, _, _, hcnt⟩ := unhide HH
    have hlt' : g' < w'.heap.size := World.block_lt_of_cell? _ _ (hrow.cells 0 (by omega))
    have hs1 := hfr'.size
    have hbx : Bx (w'.alloc (.cells #[.slice (some ⟨g', 0, none⟩) 512 cap'] 28)) w'.heap.size #[.slice (some ⟨g', 0, none⟩) 512 cap'] 28 := Bx.new w' _ _
    have hF1 : Fr (fun _ => False) w' (w'.alloc (.cells #[.slice (some ⟨g', 0, none⟩) 512 cap'] 28)) := (Fr.refl _ w').alloc _
    have hz1' : (w'.alloc (.cells #[.slice (some ⟨g', 0, none⟩) 512 cap'] 28)).heap.size = w'.heap.size + 1 := by simp
    generalize w'.alloc (.cells #[.slice (some ⟨g', 0, none⟩) 512 cap'] 28) = W0 at *
    have hFW1 : Fr (fun _ => False) W W0 := hfr'.trans hF1 (fun _ _ t => t)
    have hF0 : Fr (fun _ => False) w W0 := hFW.trans hFW1 (fun _ _ t => t)
    have hU : UpR w R (upd R g' 5) := fun k hk => upd_other _ _ (by omega)
    have hD0 : DAt W0 (upd R g' 5) b d := hD.up hF0 (fun _ t => t.elim) hU (fun k hk => by rw [upd_other _ _ (by omega)]; exact hD.zero k (by omega))
    have hh0 : Dsk W0 (upd R g' 5) p b d.many := hh.frame hF0 (fun _ _ t => t) hU
    have r0 : ∀ k, w.heap.size ≤ k → k ≠ g' → upd R g' 5 k = 0 := fun k hk hn => by rw [upd_other _ _ hn]; exact hD.zero k hk
    refine (act_write _ (upd R g' 5) b d (.wr a bs) hD0 _ (fun w1 d1 hf hsz hd1 hd => ?hdo)).mono ?_
    case hdo =>
      have hnb : ∀ k, k ≠ b → ¬ k = b := fun _ h => h
      have hdm : d1.many = d.many ∧ d1.cnt = d.cnt := by rcases hd with rfl | rfl <;> exact ⟨rfl, rfl⟩
      have n5 : ∀ k, upd R g' 5 k = 5 → ¬ k = b := fun k hk e => by rw [e, hD0.role] at hk; omega
      refine write1_any w1 (upd R g' 5) p b w'.heap.size w.heap.size (w.heap.size + 1) d1 ?_ hd1 (by rcases hd with rfl | rfl <;> exact hcnt) a (by rw [hdm.1]; exact ha) bs hl512 g' cap' (by omega) (upd_same _ _ _) ?_ ?_ ?_ ?_ (r0 _ (by omega) (by omega)) (r0 _ (by omega) (by omega)) (r0 _ (by omega) (by omega))
      · rw [hdm.1]; exact hh0.frame hf n5 (UpR.refl _ _)
      · intro j hj
        refine (hf.cell (a := ⟨g', j, none⟩) (by show g' < _; omega) (n5 g' (upd_same _ _ _))).trans ?_
        exact (hF1.cell (a := ⟨g', j, none⟩) (by show g' < _; omega) (fun t => t)).trans (hrow.cells j hj)
      · exact (hf.cell (a := ⟨w'.heap.size, 0, none⟩) (by show w'.heap.size < _; omega) (by show ¬ w'.heap.size = b; omega)).trans (hbx.cell 0)
      · refine (hf.cell (a := ⟨w.heap.size, 0, none⟩) (by show w.heap.size < _; omega) (by show ¬ w.heap.size = b; omega)).trans ?_
        exact (hFW1.cell (a := ⟨w.heap.size, 0, none⟩) (by show w.heap.size < _; omega) (fun t => t)).trans hk0
      · refine (hf.cell (a := ⟨w.heap.size + 1, 0, none⟩) (by show w.heap.size + 1 < _; omega) (by show ¬ w.heap.size + 1 = b; omega)).trans ?_
        exact (hFW1.cell (a := ⟨w.heap.size + 1, 0, none⟩) (by show w.heap.size + 1 < _; omega) (fun t => t)).trans hk1
    · rintro e w9 hA
      have HA := hide (hA.later hF0 hU)
      obtain ⟨rfl, _⟩ := hA
      clear hbx hF1 hz1' hFW1 hF0 hU hD0 hh0 r0 hrow hfr' hgn h512 hl512 hFW hzW hk0 hk1 hh hD hcnt hlt' hs1 HW HR HH
      generalize (if (d.act (.wr a bs)).2 = true then errV 5 else Value.nilIface) = ev at *
      go_wp2
      go_ret
      exact unhide HA

end Go.Proofs.YtjkghgcdkfkekaaGreatDoor

/- Contracts: the closure of a sync, Sync. -/
namespace Go.Proofs.YtjkghgcdkfkekaaGreatDoor
open Go.RowKit

theorem over_take (f : Nat → Bs) (l : List (Nat × Bs)) (i : Nat) (h : i < l.length) : over f (l.take (i + 1)) = fun c => if c = l[i].1 then l[i].2 else over f (l.take i) c := by
  funext c
  rw [List.take_succ_eq_append_getElem h, over_snoc]

set_option maxHeartbeats 1000000 in
set_option maxRecDepth 20000 in
theorem sync1_any (w : World) (R : Nat → Nat) (p b bd : Nat) (d : Dk) (h : Dsk w R p b d.many) (hD : DAt w R b d) (hcnt : d.cnt < 576460752303423488 ∧ d.wait.length < 2199023255552)
    (hd : w.cell? ⟨bd, 0, none⟩ = some (.pointer (some ⟨p, 0, none⟩))) (rd : R bd = 0) :
    Calls Tryz.prog 91 #[.pointer (some ⟨bd, 0, none⟩)] w fun e w' => e = .returned (.tuple #[]) ∧ ∃ R', DAt w' R' b (d.carry .sy) ∧ UpR w R R' ∧ Fr (DS R) w w' := by
  obtain ⟨ms, mn, Ds, Dn, ao, cap, gw, xs, hb, m3, m4, m5, m6, m7⟩ := hD.box
  have ld := World.block_lt_of_cell? _ _ hd
  have lp := h.lt
  have lb := hD.lt
  have lms := m5.own.lt
  have cb3 : w.cell? ⟨b, 3, none⟩ = some (.slice ao d.wait.length cap) := hb.cell 3
  have cb1 : w.cell? ⟨b, 1, none⟩ = some (.map (some ms)) := hb.cell 1
  have cp0 := h.c0
  have hwc := hD.wcnt
  have hlen := m7.len
  have rb := hD.role
  have rp := h.role
  have nms : ∀ k, R k ≠ 2 → ¬ k = ms := fun k hk e => hk (by rw [e]; exact m3)
  have hn : (d.wait.length : Int) ≤ 2199023255552 := by omega
  have HD := hide (And.intro h (And.intro hD (And.intro hb (And.intro m3 (And.intro m4 (And.intro m5 (And.intro m6 m7)))))))
  have HC := hide (And.intro hcnt (And.intro hwc (And.intro hlen (And.intro rb (And.intro rp nms)))))
  clear h hD hb m3 m4 m5 m6 m7 hcnt hwc hlen rb rp nms
  go_enter Tryz.func91, Tryz.ntmps91
  go_wp2
  go_loopw [11] (fun iv wr => ∃ i : Nat, i ≤ d.wait.length ∧ iv = .int .i64 i ∧ ∃ D, Hid (MapAt wr R ms (d.cnt + i) (over d.safe (d.wait.take i)) D ∧ Fr (fun k => k = ms) w wr)) (fun iv _ => d.wait.length - (intOf iv).toNat)
  case atStart => exact ⟨0, Nat.zero_le _, rfl, Ds, (unhide HD).2.2.2.2.2.1, Fr.refl _ _⟩
  case round =>
    obtain ⟨i, hin, rfl, D, HI⟩ := hrel
    obtain ⟨hcnt, hwc, hlen, rb, rp, nms⟩ := unhide HC
    obtain ⟨h, hD, hb, m3, m4, m5, m6, m7⟩ := unhide HD
    obtain ⟨hM, hF⟩ := unhide HI
    have tr : ∀ k j, R k ≠ 2 → k < w.heap.size → wr.cell? ⟨k, j, none⟩ = w.cell? ⟨k, j, none⟩ := fun k j hk hl => hF.cell (a := ⟨k, j, none⟩) hl (nms k hk)
    have kd := (tr bd 0 (by omega) ld).trans hd
    have kp := (tr p 0 (by omega) lp).trans cp0
    have k1 := (tr b 1 (by omega) lb).trans cb1
    have k3 := (tr b 3 (by omega) lb).trans cb3
    by_cases hlt : i < d.wait.length
    · obtain ⟨he1, he2⟩ := m7.each i (by omega) hlt
      obtain ⟨hv1, hv2⟩ := waitV_get xs i (by omega)
      have hcp : 0 < cap := by have := m7.row.le; rw [waitV_length] at this; omega
      have hao := m7.row.ad hcp
      subst hao
      have hwl := waitV_length xs
      have q1 : wr.cell? ⟨gw, i * 2, none⟩ = some (.int .i64 (xs[i].1 : Int)) := by
        rw [tr gw _ (by rw [(m7.role hcp).1]; omega) (m7.role hcp).2, m7.row.cells (i * 2) (by omega), ← hv1, List.getElem?_eq_getElem]
      have q2 : wr.cell? ⟨gw, i * 2 + 1, none⟩ = some xs[i].2 := by
        rw [tr gw _ (by rw [(m7.role hcp).1]; omega) (m7.role hcp).2, m7.row.cells (i * 2 + 1) (by omega), ← hv2, List.getElem?_eq_getElem]
      have hilt : (i : Int) < (d.wait.length : Int) := by omega
      obtain ⟨xo, xc, ys, hx2, _⟩ := he2.bat
      rw [hx2] at q2 he2
      have lw : gw < w.heap.size := (m7.role hcp).2
      have hk1 : xs[i].1 < 4294967296 := by rw [he1]; exact hD.keys _ (List.getElem_mem hlt)
      have hFa : Fr (fun _ => False) wr (wr.alloc (.cells #[.int .i64 (xs[i].1 : Int), .slice xo ys.length xc] 87)).drew := ((Fr.refl _ _).alloc _).drew
      have hFb : Fr (fun k => k = ms) w (wr.alloc (.cells #[.int .i64 (xs[i].1 : Int), .slice xo ys.length xc] 87)).drew := hF.trans hFa (fun _ _ t => t.elim)
      have nms5 : ∀ k, R k = 5 → ¬ k = ms := fun k hk => nms k (by omega)
      obtain ⟨w2, hrun, hM2, hF2, hz2⟩ := update_any (hM.frame (R' := R) hFa (fun _ _ t => t) (fun t => t) (fun _ _ => rfl)) (by omega) (by omega) xs[i].1 hk1 _ d.wait[i].2 (he2.frame (R' := R) hFb nms5 (fun _ _ => rfl))
      have hF3 : Fr (fun k => k = ms) w w2 := hFb.trans hF2 (fun _ _ t => t)
      have hS : ∀ w', Fr (fun k => k = ms) (wr.alloc (.cells #[.int .i64 (xs[i].1 : Int), .slice xo ys.length xc] 87)).drew w' → w'.cell? ⟨bd, 0, none⟩ = some (.pointer (some ⟨p, 0, none⟩)) ∧ w'.cell? ⟨p, 0, none⟩ = some (.pointer (some ⟨b, 0, none⟩)) ∧ w'.cell? ⟨b, 1, none⟩ = some (.map (some ms)) ∧ w'.cell? ⟨wr.heap.size, 0, none⟩ = some (.int .i64 (xs[i].1 : Int)) ∧ w'.cell? ⟨wr.heap.size, 1, none⟩ = some (.slice xo ys.length xc) := fun w' hf => by
        have hf2 := hFb.trans hf (fun _ _ t => t)
        have hs := hF.size
        have hsz : (wr.alloc (.cells #[.int .i64 (xs[i].1 : Int), .slice xo ys.length xc] 87)).drew.heap.size = wr.heap.size + 1 := by simp
        refine ⟨(hf2.cell (a := ⟨bd, 0, none⟩) ld (nms bd (by omega))).trans hd, (hf2.cell (a := ⟨p, 0, none⟩) lp (nms p (by omega))).trans cp0, (hf2.cell (a := ⟨b, 1, none⟩) lb (nms b (by omega))).trans cb1, ?_, ?_⟩
        · exact (hf.cell (a := ⟨wr.heap.size, 0, none⟩) (by rw [hsz]; exact Nat.lt_succ_self _) (by show ¬ wr.heap.size = ms; omega)).trans ((Bx.new wr #[.int .i64 (xs[i].1 : Int), .slice xo ys.length xc] 87).drew.cell 0)
        · exact (hf.cell (a := ⟨wr.heap.size, 1, none⟩) (by rw [hsz]; exact Nat.lt_succ_self _) (by show ¬ wr.heap.size = ms; omega)).trans ((Bx.new wr #[.int .i64 (xs[i].1 : Int), .slice xo ys.length xc] 87).drew.cell 1)
      have HS := hide hS
      have HK := hide (And.intro hM2 (And.intro hF2 (And.intro hF3 he1)))
      have hilt : (i : Int) < (d.wait.length : Int) := by omega
      generalize xs[i].1 = x1 at *
      clear hM hF he1 he2 hv1 hv2 tr h hD hb m3 m4 m5 m6 m7 hcnt hwc hlen rb rp nms nms5 hcp hwl hM2 hF2 hF3 hz2 hS hFa hFb hx2 hk1
      go_wp2
      go_region_held3 (fun w' => w'.cell? ⟨bd, 0, none⟩ = some (.pointer (some ⟨p, 0, none⟩)) ∧ w'.cell? ⟨p, 0, none⟩ = some (.pointer (some ⟨b, 0, none⟩)) ∧ w'.cell? ⟨b, 1, none⟩ = some (.map (some ms)) ∧ w'.cell? ⟨wr.heap.size, 0, none⟩ = some (.int .i64 (x1 : Int)) ∧ w'.cell? ⟨wr.heap.size, 1, none⟩ = some (.slice xo ys.length xc)) (first | exact unhide HS _ (Fr.refl _ _) | exact unhide HS _ (unhide HK).2.1) (fail)
      clear HS hrun q1 q2 kd kp k1 k3
      go_wp2
      obtain ⟨hM2, hF2, hF3, he1⟩ := unhide HK
      have hM3 := hM2
      rw [show (fun c => if c = x1 then d.wait[i].2 else over d.safe (d.wait.take i) c) = over d.safe (d.wait.take (i + 1)) by rw [over_take _ _ _ hlt, he1]] at hM3
      exact ⟨⟨i + 1, by omega, by go_num, _, hM3, hF3⟩, by simp [intOf]; omega⟩
    · obtain rfl : i = d.wait.length := by omega
      have fz3 : wr.frozen? ⟨b, 3, none⟩ = false := (hF.frozen (a := ⟨b, 3, none⟩) lb (nms b (by omega))).trans (hb.frozen 3)
      clear tr h hD hb m3 m4 m5 m6 m7 hcnt hwc hlen rb rp nms hM hF
      go_wp2
      go_end0
      obtain ⟨hcnt, hwc, hlen, rb, rp, nms⟩ := unhide HC
      obtain ⟨h, hD, hb, m3, m4, m5, m6, m7⟩ := unhide HD
      obtain ⟨hM, hF⟩ := unhide HI
      rw [List.take_length] at hM
      have hF9 : Fr (fun k => k = ms ∨ k = b) w (wr.setCell ⟨b, 3, none⟩ (.slice none 0 0)) := (hF.mono (fun _ _ t => .inl t)).setCell (fun _ => .inr rfl) _
      have hF8 : Fr (fun k => k = b) wr (wr.setCell ⟨b, 3, none⟩ (.slice none 0 0)) := frB _
      have n5 : ∀ k, R k = 5 → ¬ (k = ms ∨ k = b) := fun k hk t => by rcases t with rfl | rfl <;> omega
      have n5' : ∀ k, R k = 5 → ¬ k = b := fun k hk t => n5 k hk (.inr t)
      have hbox := (Bx.frame hb hF (nms b (by omega))).setCell 3 (.slice none 0 0)
      have hbe : (boxC d ms mn ao cap).setIfInBounds 3 (.slice none 0 0) = boxC (d.carry .sy) ms mn none 0 := by simp [boxC, Dk.carry]
      rw [hbe] at hbox
      refine ⟨rfl, R, ⟨fun k hk => hD.zero k (Nat.le_trans hF9.size hk), rb, ⟨ms, mn, D, Dn, none, 0, 0, [], hbox, m3, m4, ?_, ?_, ⟨rfl, KRow.nil _ _ _, fun h => absurd h (by omega), fun i h => absurd h (by simp)⟩⟩, hD.many, hD.acts, fun q hq => (by cases hq), Nat.zero_le _⟩, UpR.refl _ _, hF9.mono (fun k _ t => ?_)⟩
      · exact hM.frame hF8 n5' (fun e => by rw [e] at m3; omega) (fun _ _ => rfl)
      · have := m6.frame (R' := R) hF9 n5 (fun t => by rcases t with rfl | rfl <;> omega) (fun _ _ => rfl)
        refine ⟨this.own.mono (Nat.le_add_right _ _), ?_⟩
        exact this.sec
      · rcases t with rfl | rfl
        · exact ⟨by omega, by omega⟩
        · exact ⟨by omega, by omega⟩

set_option maxRecDepth 20000 in
theorem act_sync (w : World) (R : Nat → Nat) (b : Nat) (d : Dk) (x : Ac) (hD : DAt w R b d) (caps : Array Value)
    (hdo : ∀ w1 d1, Fr (fun k => k = b) w w1 → w1.heap.size = w.heap.size → DAt w1 R b d1 → (d1 = d ∨ d1 = { d with acts := d.acts - 1 }) → Calls Tryz.prog 91 caps w1 fun e w' => e = .returned (.tuple #[]) ∧ ∃ R', DAt w' R' b (d1.carry x) ∧ UpR w1 R R' ∧ Fr (DS R) w1 w') :
    Calls Tryz.prog 90 #[.pointer (some ⟨b, 0, none⟩), .func (Fn.func 91) #[] caps] w (Acted w R b (d.act x)) := by
  have c4 := hD.c4
  have c5 := hD.c5
  have c6 := hD.c6
  have c7 := hD.c7
  have f5 := hD.fz 5
  have f7 := hD.fz 7
  have lb := hD.lt
  have hb := dsB hD
  have hact := hD.acts
  have HD := hide hD
  have HDO := hide hdo
  clear hD hdo
  cases har : d.armed with
  | false =>
    rw [har] at c4
    have hA : d.act x = (d.carry x, false) := d.act_free x har
    rw [hA]
    have HA := hide har
    clear har hA
    go_enter Tryz.func90, Tryz.ntmps90
    go_wp2_with fail
    refine (unhide HDO _ d (Fr.refl _ _) rfl (unhide HD) (.inl rfl)).mono ?_
    rintro e w1 ⟨rfl, hP⟩
    have HP := hide hP
    clear hP c4 c5 c6 c7 f5 f7
    go_wp2
    go_ret
    exact ⟨rfl, unhide HP⟩
  | true =>
    rw [har] at c4
    by_cases h0 : d.acts = 0
    · rw [h0] at c5
      cases hdn : d.done with
      | false =>
        rw [hdn] at c6
        have hA : d.act x = ({ d with down := true }, true) := d.act_last0 x har h0 hdn
        rw [hA]
        have HA := hide (And.intro har (And.intro h0 hdn))
        clear har h0 hdn hA
        go_enter Tryz.func90, Tryz.ntmps90
        go_wp2
        go_ret
        exact ⟨rfl, R, (unhide HD).setDown, UpR.refl _ _, (frB _).mono (fun k _ e => hb k e)⟩
      | true =>
        rw [hdn] at c6
        have hA : d.act x = ({ d.carry x with down := true }, true) := d.act_last1 x har h0 hdn
        rw [hA]
        have HA := hide (And.intro har (And.intro h0 hdn))
        clear har h0 hdn hA
        go_enter Tryz.func90, Tryz.ntmps90
        go_wp2_with fail
        refine (unhide HDO _ d (Fr.refl _ _) rfl (unhide HD) (.inl rfl)).mono ?_
        rintro e w1 ⟨rfl, R1, hD1, hU1, hF1⟩
        have k7 := hD1.c7
        have g7 := hD1.fz 7
        have HP := hide (And.intro hD1 (And.intro hU1 hF1))
        clear hD1 hU1 hF1 c4 c5 c6 c7 f5 f7
        go_wp2
        go_ret
        obtain ⟨hD1, hU1, hF1⟩ := unhide HP
        exact ⟨rfl, R1, hD1.setDown, hU1, hF1.setCell (p := ⟨b, 7, none⟩) (fun _ => hb b rfl) _⟩
    · have hA : d.act x = ({ d with acts := d.acts - 1 }.carry x, false) := d.act_more x har h0
      rw [hA]
      obtain ⟨m, hm⟩ : ∃ m, d.acts = m + 1 := ⟨d.acts - 1, by omega⟩
      have c5' : w.cell? ⟨b, 5, none⟩ = some (.int .i64 ((m : Int) + 1)) := by rw [c5, hm]; rfl
      have hw : IntKind.i64.wrap (m : Int) = (m : Int) := by rw [IntKind.wrap_i64]; omega
      have hne : (((m : Int) + 1) == 0) = false := by simp; omega
      have hwd := (unhide HD).setActs m (by omega)
      have hdd : { d with acts := m } = { d with acts := d.acts - 1 } := by rw [hm]; rfl
      rw [hdd] at hwd
      have hmb : (m : Int) < 9223372036854775807 := by omega
      have HA := hide (And.intro har (And.intro h0 (And.intro hm (And.intro hwd hdd))))
      clear har h0 hm hwd hdd c5 hA hact
      go_enter Tryz.func90, Tryz.ntmps90
      go_wp2_with fail
      refine (unhide HDO _ { d with acts := d.acts - 1 } (frB _) (by simp) (unhide HA).2.2.2.1 (.inr rfl)).mono ?_
      rintro e w1 ⟨rfl, R1, hD1, hU1, hF1⟩
      have HP := hide (And.intro hD1 (And.intro hU1 hF1))
      clear hD1 hU1 hF1 c4 c5' c6 c7 f5 f7
      go_wp2
      go_ret
      obtain ⟨hD1, hU1, hF1⟩ := unhide HP
      refine ⟨rfl, R1, hD1, fun k hk => hU1 k (by simpa using hk), Fr.trans (S := DS R) (b := w.setCell ⟨b, 5, none⟩ (.int .i64 (m : Int))) ((frB _).mono (fun k _ e => hb k e)) hF1 (fun _ _ t => t)⟩

theorem sync_any (w : World) (R : Nat → Nat) (p b : Nat) (d : Dk) (h : Dsk w R p b d.many) (hD : DAt w R b d) (hup : d.down = false) (hcnt : d.cnt < 576460752303423488 ∧ d.wait.length < 2199023255552) :
    Calls Tryz.prog 64 #[.pointer (some ⟨p, 0, none⟩)] w (Acted w R b (d.act .sy)) := by
  have c0 := h.c0
  have c7 := hD.c7
  rw [hup] at c7
  have lp := h.lt
  have lb := hD.lt
  have hmk := makes
  have HH := hide (And.intro h (And.intro hD hcnt))
  clear h hD hcnt
  go_enter Tryz.func64, Tryz.ntmps64
  go_wp2_with fail
  obtain ⟨hh, hD, hcnt⟩ := unhide HH
  have hbx := Bx.new w #[.pointer (some ⟨p, 0, none⟩)] 37
  have hF0 : Fr (fun _ => False) w (w.alloc (.cells #[.pointer (some ⟨p, 0, none⟩)] 37)) := (Fr.refl _ _).alloc _
  have hz : (w.alloc (.cells #[.pointer (some ⟨p, 0, none⟩)] 37)).heap.size = w.heap.size + 1 := by simp
  generalize w.alloc (.cells #[.pointer (some ⟨p, 0, none⟩)] 37) = W0 at *
  have hD0 : DAt W0 R b d := hD.frame hF0 (fun _ t => t.elim)
  have hh0 : Dsk W0 R p b d.many := hh.frame hF0 (fun _ _ t => t) (UpR.refl _ _)
  refine (act_sync _ R b d .sy hD0 _ (fun w1 d1 hf hsz hd1 hd => ?hdo)).mono ?_
  case hdo =>
    have hdm : d1.many = d.many ∧ d1.cnt = d.cnt := by rcases hd with rfl | rfl <;> exact ⟨rfl, rfl⟩
    have n5 : ∀ k, R k = 5 → ¬ k = b := fun k hk e => by rw [e, hD0.role] at hk; omega
    refine sync1_any w1 R p b w.heap.size d1 (by rw [hdm.1]; exact hh0.frame hf n5 (UpR.refl _ _)) hd1 (by rcases hd with rfl | rfl <;> exact hcnt) ?_ (hD.zero _ (Nat.le_refl _))
    exact (hf.cell (a := ⟨w.heap.size, 0, none⟩) (by show w.heap.size < _; omega) (by show ¬ w.heap.size = b; omega)).trans (hbx.cell 0)
  · rintro e w9 hA
    have HA := hide (hA.later hF0 (UpR.refl _ _))
    obtain ⟨rfl, _⟩ := hA
    clear hbx hz hF0 hD0 hh0 hh hD hcnt HH
    generalize (if (d.act .sy).2 = true then errV 5 else Value.nilIface) = ev at *
    go_wp2
    go_ret
    exact unhide HA

end Go.Proofs.YtjkghgcdkfkekaaGreatDoor

