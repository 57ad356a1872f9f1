/- The region of HashApart that draws its order. -/
import Derived.Test.YtchdjfhenjbcnaaDoorK2
namespace Go.Proofs.YtchdjfhenjbcnaaDoor
open Go.RowKit

section
variable {P : Program} {ops : Array Oper} {Q : Exit → Act → World → Prop} {md : Region.Mode} {S : World → Prop} {fuel : Nat} {listed : Array Bool} {a : Act} {w : World} {i : Nat} {o : Oper} {rs : List Nat}
/-- An operation whose run is known. -/
theorem readyH_runw (hi : ops[i]? = some o) (hw : Region.wanted o (yielded ops a.tmps) = true) (v : Value) (w' : World) (hrun : (execOp a.eval o).run P w = .ok (.value v) w') (hS : S w')
    (h : wpAnyH P md ops Q S fuel (listed.setIfInBounds i true) (a.put o.dst v) w') (hs : AllReadyH P md ops Q S fuel listed a w rs) : AllReadyH P md ops Q S fuel listed a w (i :: rs) := by
  refine AllReadyH.cons hi (fun K hK => ?_) hs
  rw [if_pos hw]
  unfold Oper.wp
  rw [hrun]
  exact hK.out _ _ hS (fun _ => h)
theorem exec_append {w w' : World} {a : Act} {o : Oper} (t tx ty : TypeId) (hty : o.type = ty) (s x : Operand) (ho : o.op = .call { callee := .builtin .append, args := #[s, x], argTypes := #[t, tx] }) (sv xv : Value) {v : Value} (hs : a.eval s = sv) (hx : a.eval x = xv) (hrun : (Builtin.append_ #[t, tx] ty #[sv, xv]).run P w = .ok v w') : (execOp a.eval o).run P w = .ok (.value v) w' := by
  subst hty
  simp [execOp, ho, resolve, invoke, builtin, hs, hx, hrun, Result.andThen]
end
theorem World.size_alloc_le (w : World) (o : Obj) : w.heap.size ≤ (w.alloc o).heap.size := by simp

set_option maxHeartbeats 1000000 in
theorem a13_any {Q : Exit → Act → World → Prop} (w0 : World) (hT : TabP w0) (ao bo co xo yo : Option Addr) (ac bc cc xc yc : Nat) (az bs cs : List UInt8) (hA : BAt w0 ao ac az) (hB : BAt w0 bo bc bs) (hC : BAt w0 co cc cs) (hla : az.length ≤ 1048576) (hlb : bs.length ≤ 1048576) (hlc : cs.length ≤ 1048576)
    (hx : ∀ wx, Fr (fun _ => False) w0 wx → (convert 22 9 (.slice xo 32 xc)).run Tryd.prog wx = .ok (.string ⟨(digest (az ++ bs)).toArray⟩) wx) (hy : ∀ wx, Fr (fun _ => False) w0 wx → (convert 22 9 (.slice yo 32 yc)).run Tryd.prog wx = .ok (.string ⟨(digest (az ++ cs)).toArray⟩) wx) (u3 u4 u5 u6 u7 u8 u9 u12 u13 u14 u15 u16 u17 u18 u19 u20 u21 u22 u23 u24 u25 u26 u27 u28 u29 u30 u31 u32 u33 u34 u35 u36 u37 u38 u39 u40 u41 u42 u43 u44 u45 u46 u47 u48 u49 u50 u51 u52 u53 u54 u55 u56 u57 u58 : Value) (hQ : ∀ c (a : Act) (t : Tmp) v w, Q (.panic c) (a.put (some t) v) w → Q (.panic c) a w)
    (h : ∀ w9 (v39 v41 v43 v44 v50 v52 v54 v55 : Value), Fr (fun _ => False) w0 w9 → Q .normal { tmps := #[(.slice ao az.length ac : Value), (.slice bo bs.length bc), (.slice co cs.length cc), u3, u4, u5, (.bool true), u7, u8, u9, (.slice xo 32 xc), (.slice yo 32 yc), u12, u13, u14, u15, u16, u17, u18, u19, u20, u21, u22, u23, u24, u25, u26, u27, u28, u29, u30, u31, u32, u33, u34, u35, u36, (.slice xo 32 xc), (.string ⟨(digest (az ++ bs)).toArray⟩), (v39), (.slice ao az.length ac), (v41), (.slice bo bs.length bc), (v43), (v44), (.string ⟨(digest (az ++ bs)).toArray⟩), (.bool true), (.bool true), (.slice yo 32 yc), (.string ⟨(digest (az ++ cs)).toArray⟩), (v50), (.slice ao az.length ac), (v52), (.slice co cs.length cc), (v54), (v55), (.string ⟨(digest (az ++ cs)).toArray⟩), (.bool true), (.bool true)], defers := [] } w9) :
    (Code.region 13 #[{ dst := some 37, op := Go.Op.move (Go.Operand.tmp 10), type := 22, pos := "law.go:124", after := #[], guard := none }, { dst := some 38, op := Go.Op.convert 22 9 (Go.Operand.tmp 37), type := 9, pos := "law.go:124", after := #[{ on := 0, ground := Go.Ground.data }], guard := none }, { dst := some 39, op := Go.Op.buildSlice 22 0 #[], type := 22, pos := "law.go:124", after := #[], guard := none }, { dst := some 40, op := Go.Op.move (Go.Operand.tmp 0), type := 22, pos := "law.go:124", after := #[], guard := none }, { dst := some 41, op := Go.Op.call { callee := Go.Callee.builtin Go.Builtin.append, args := #[Go.Operand.tmp 39, Go.Operand.tmp 40], argTypes := #[22, 22] }, type := 22, pos := "law.go:124", after := #[{ on := 2, ground := Go.Ground.data }, { on := 3, ground := Go.Ground.data }], guard := none }, { dst := some 42, op := Go.Op.move (Go.Operand.tmp 1), type := 22, pos := "law.go:124", after := #[], guard := none }, { dst := some 43, op := Go.Op.call { callee := Go.Callee.builtin Go.Builtin.append, args := #[Go.Operand.tmp 41, Go.Operand.tmp 42], argTypes := #[22, 22] }, type := 22, pos := "law.go:124", after := #[{ on := 4, ground := Go.Ground.data }, { on := 5, ground := Go.Ground.data }, { on := 4, ground := Go.Ground.chain }], guard := none }, { dst := some 44, op := Go.Op.call { callee := Go.Callee.value (Go.Operand.func 9), args := #[Go.Operand.tmp 43], argTypes := #[22] }, type := 22, pos := "law.go:124", after := #[{ on := 6, ground := Go.Ground.data }, { on := 6, ground := Go.Ground.chain }], guard := none }, { dst := some 45, op := Go.Op.convert 22 9 (Go.Operand.tmp 44), type := 9, pos := "law.go:124", after := #[{ on := 7, ground := Go.Ground.data }], guard := none }, { dst := some 46, op := Go.Op.binOp Go.BinOp.eql 9 (Go.Operand.tmp 38) (Go.Operand.tmp 45) 9, type := 4, pos := "law.go:124", after := #[{ on := 1, ground := Go.Ground.data }, { on := 8, ground := Go.Ground.data }], guard := none }, { dst := some 47, op := Go.Op.move (Go.Operand.tmp 46), type := 4, pos := "law.go:124", after := #[{ on := 9, ground := Go.Ground.data }, { on := 7, ground := Go.Ground.chain }], guard := none }, { dst := some 48, op := Go.Op.move (Go.Operand.tmp 11), type := 22, pos := "law.go:124", after := #[{ on := 10, ground := Go.Ground.guard }], guard := some (10, true) }, { dst := some 49, op := Go.Op.convert 22 9 (Go.Operand.tmp 48), type := 9, pos := "law.go:124", after := #[{ on := 11, ground := Go.Ground.data }, { on := 10, ground := Go.Ground.guard }], guard := some (10, true) }, { dst := some 50, op := Go.Op.buildSlice 22 0 #[], type := 22, pos := "law.go:124", after := #[{ on := 10, ground := Go.Ground.guard }], guard := some (10, true) }, { dst := some 51, op := Go.Op.move (Go.Operand.tmp 0), type := 22, pos := "law.go:124", after := #[{ on := 10, ground := Go.Ground.guard }], guard := some (10, true) }, { dst := some 52, op := Go.Op.call { callee := Go.Callee.builtin Go.Builtin.append, args := #[Go.Operand.tmp 50, Go.Operand.tmp 51], argTypes := #[22, 22] }, type := 22, pos := "law.go:124", after := #[{ on := 13, ground := Go.Ground.data }, { on := 14, ground := Go.Ground.data }, { on := 10, ground := Go.Ground.chain }, { on := 10, ground := Go.Ground.guard }], guard := some (10, true) }, { dst := some 53, op := Go.Op.move (Go.Operand.tmp 2), type := 22, pos := "law.go:124", after := #[{ on := 10, ground := Go.Ground.guard }], guard := some (10, true) }, { dst := some 54, op := Go.Op.call { callee := Go.Callee.builtin Go.Builtin.append, args := #[Go.Operand.tmp 52, Go.Operand.tmp 53], argTypes := #[22, 22] }, type := 22, pos := "law.go:124", after := #[{ on := 15, ground := Go.Ground.data }, { on := 16, ground := Go.Ground.data }, { on := 15, ground := Go.Ground.chain }, { on := 10, ground := Go.Ground.guard }], guard := some (10, true) }, { dst := some 55, op := Go.Op.call { callee := Go.Callee.value (Go.Operand.func 9), args := #[Go.Operand.tmp 54], argTypes := #[22] }, type := 22, pos := "law.go:124", after := #[{ on := 17, ground := Go.Ground.data }, { on := 17, ground := Go.Ground.chain }, { on := 10, ground := Go.Ground.guard }], guard := some (10, true) }, { dst := some 56, op := Go.Op.convert 22 9 (Go.Operand.tmp 55), type := 9, pos := "law.go:124", after := #[{ on := 18, ground := Go.Ground.data }, { on := 10, ground := Go.Ground.guard }], guard := some (10, true) }, { dst := some 57, op := Go.Op.binOp Go.BinOp.eql 9 (Go.Operand.tmp 49) (Go.Operand.tmp 56) 9, type := 4, pos := "law.go:124", after := #[{ on := 12, ground := Go.Ground.data }, { on := 19, ground := Go.Ground.data }, { on := 10, ground := Go.Ground.guard }], guard := some (10, true) }, { dst := some 58, op := Go.Op.pick (Go.Operand.tmp 47) (Go.Operand.tmp 57) (Go.Operand.const (Go.Value.bool false)), type := 4, pos := "law.go:124", after := #[{ on := 10, ground := Go.Ground.data }, { on := 20, ground := Go.Ground.data }], guard := none }, { dst := some 6, op := Go.Op.assign (Go.Operand.tmp 58), type := 4, pos := "law.go:124", after := #[{ on := 21, ground := Go.Ground.data }, { on := 18, ground := Go.Ground.chain }, { on := 0, ground := Go.Ground.phase }, { on := 1, ground := Go.Ground.phase }, { on := 2, ground := Go.Ground.phase }, { on := 3, ground := Go.Ground.phase }, { on := 4, ground := Go.Ground.phase }, { on := 5, ground := Go.Ground.phase }, { on := 6, ground := Go.Ground.phase }, { on := 7, ground := Go.Ground.phase }, { on := 8, ground := Go.Ground.phase }, { on := 9, ground := Go.Ground.phase }, { on := 10, ground := Go.Ground.phase }, { on := 11, ground := Go.Ground.phase }, { on := 12, ground := Go.Ground.phase }, { on := 13, ground := Go.Ground.phase }, { on := 14, ground := Go.Ground.phase }, { on := 15, ground := Go.Ground.phase }, { on := 16, ground := Go.Ground.phase }, { on := 17, ground := Go.Ground.phase }, { on := 18, ground := Go.Ground.phase }, { on := 19, ground := Go.Ground.phase }, { on := 20, ground := Go.Ground.phase }, { on := 21, ground := Go.Ground.phase }], guard := none }] true).wp Tryd.prog Q { tmps := #[(.slice ao az.length ac : Value), (.slice bo bs.length bc), (.slice co cs.length cc), u3, u4, u5, u6, u7, u8, u9, (.slice xo 32 xc), (.slice yo 32 yc), u12, u13, u14, u15, u16, u17, u18, u19, u20, u21, u22, u23, u24, u25, u26, u27, u28, u29, u30, u31, u32, u33, u34, u35, u36, u37, u38, u39, u40, u41, u42, u43, u44, u45, u46, u47, u48, u49, u50, u51, u52, u53, u54, u55, u56, u57, u58], defers := [] } w0 := by
  refine wp_region_held_drew (S := fun w' => Fr (fun _ => False) w0 w') (by kernel_rfl) (Fr.refl _ w0).drew (fun hS => ?_)
  obtain ⟨i0, hi, hz0, hz1, hz2⟩ := info_parts Tryd.info5
  refine wpAnyH_take (i := 0) (v := (.slice xo 32 xc)) rfl (by kernel_rfl) (by kernel_rfl) (by kernel_rfl) (fun _ _ _ h => hQ _ _ _ _ _ h) (Or.inl ⟨by kernel_rfl, fun w _ => by go_simp⟩) (by assumption) ?_
  refine wpAnyH_take (i := 1) (v := (.string ⟨(digest (az ++ bs)).toArray⟩)) rfl (by kernel_rfl) (by kernel_rfl) (by kernel_rfl) (fun _ _ _ h => hQ _ _ _ _ _ h) (Or.inl ⟨by kernel_rfl, fun w hw => exec_conv 22 9 (.tmp 37) rfl (.slice xo 32 xc) (.string ⟨(digest (az ++ bs)).toArray⟩) (by kernel_rfl) (hx w hw)⟩) (by assumption) ?_
  refine wpAnyH_take (i := 3) (v := (.slice ao az.length ac)) rfl (by kernel_rfl) (by kernel_rfl) (by kernel_rfl) (fun _ _ _ h => hQ _ _ _ _ _ h) (Or.inl ⟨by kernel_rfl, fun w _ => by go_simp⟩) (by assumption) ?_
  refine wpAnyH_take (i := 5) (v := (.slice bo bs.length bc)) rfl (by kernel_rfl) (by kernel_rfl) (by kernel_rfl) (fun _ _ _ h => hQ _ _ _ _ _ h) (Or.inl ⟨by kernel_rfl, fun w _ => by go_simp⟩) (by assumption) ?_
  have hSp0 : Fr (fun _ => False) w0 (w0.drew.alloc (.cells #[] 5)) := Fr.alloc (by assumption) _
  have hrp0 : Row (w0.drew.alloc (.cells #[] 5)) (.slice (some ⟨w0.drew.heap.size, 0, none⟩) 0 0) w0.drew.heap.size [] := Row.empty (Nat.zero_le _) (fun j hj => absurd hj (by omega))
  refine wpAnyH_ready (rs := [2]) (by kernel_rfl) (by simp) (readyH_runw (i := 2) rfl (by kernel_rfl) (.slice (some ⟨w0.drew.heap.size, 0, none⟩) 0 0) (w0.drew.alloc (.cells #[] 5)) (by kernel_rfl) hSp0 ?_ AllReadyH.nil)
  obtain ⟨aop1, capp1, wp1, gp1, hrunp1, rowp1, frp1, hgp1⟩ := append_row (P := Tryd.prog) 22 22 22 5 i0 Tryd.underlying22 hi hz0 hz1 hz2 (bs := []) hrp0 (.slice ao az.length ac) az (src_slice Tryd.underlying22 _ ao ac az (hA.later hSp0).2.1) (by rw [List.length_nil]; omega)
  rw [List.nil_append] at hrunp1 rowp1
  have hszp := hSp0.size
  have hwlp : w0.heap.size ≤ w0.drew.heap.size := Fr.size (S := fun _ => False) (by assumption)
  have hSp1 : Fr (fun _ => False) w0 wp1 := hSp0.trans frp1 (fun i hi t => by omega)
  refine wpAnyH_ready (rs := [4]) (by kernel_rfl) (by simp) (readyH_runw (i := 4) rfl (by kernel_rfl) (.slice aop1 az.length capp1) wp1 (exec_append 22 22 22 rfl (.tmp 39) (.tmp 40) rfl (.slice (some ⟨w0.drew.heap.size, 0, none⟩) 0 0) (.slice ao az.length ac) (by kernel_rfl) (by kernel_rfl) hrunp1) hSp1 ?_ AllReadyH.nil)
  obtain ⟨aop2, capp2, wp2, gp2, hrunp2, rowp2, frp2, hgp2⟩ := append_row (P := Tryd.prog) 22 22 22 5 i0 Tryd.underlying22 hi hz0 hz1 hz2 rowp1 (.slice bo bs.length bc) bs (src_slice Tryd.underlying22 _ _ _ bs (hB.later hSp1).2.1) (by omega)
  have hgp1b : w0.heap.size ≤ gp1 := by
    rcases hgp1 with ⟨e, _⟩ | e
    · omega
    · have := World.size_alloc_le w0.drew (.cells #[] 5)
      omega
  have hSp2 : Fr (fun _ => False) w0 wp2 := hSp1.trans frp2 (fun i hi t => by omega)
  refine wpAnyH_ready (rs := [6]) (by kernel_rfl) (by simp) (readyH_runw (i := 6) rfl (by kernel_rfl) (.slice aop2 (az ++ bs).length capp2) wp2 (exec_append 22 22 22 rfl (.tmp 41) (.tmp 42) rfl (.slice aop1 az.length capp1) (.slice bo bs.length bc) (by kernel_rfl) (by kernel_rfl) hrunp2) hSp2 ?_ AllReadyH.nil)
  obtain ⟨_, _, hshp, hlcp, _⟩ := rowp2.shape
  injection hshp with _ _ hcep
  subst hcep
  have HEp := sum_any wp2 (hT.later hSp2) aop2 capp2 (az ++ bs) (rowp2.bat (by rw [List.length_append]; omega)).2 hlcp
  refine wpAnyH_ready (rs := [7]) (by kernel_rfl) (by simp) (readyH_call (i := 7) rfl (by kernel_rfl) 9 #[.slice aop2 (az ++ bs).length capp2] (by kernel_rfl) HEp ?_ AllReadyH.nil)
  rintro e wp3 ⟨vp, rfl, gp3, rowp3, frp3, _⟩
  obtain ⟨aop3, capp3, rfl, _⟩ := rowp3.shape
  have cvp := conv_bytes (rowp3.bat (by rw [digest_length]; omega)).2
  rw [digest_length] at cvp ⊢
  have hSp3 : Fr (fun _ => False) w0 wp3 := hSp2.trans frp3 (fun _ _ t => t)
  refine ⟨_, rfl, hSp3, ?_⟩
  refine wpAnyH_ready (rs := [8]) (by kernel_rfl) (by simp) (readyH_run (i := 8) rfl (by kernel_rfl) (.string ⟨(digest (az ++ bs)).toArray⟩) (exec_conv 22 9 (.tmp 44) rfl (.slice aop3 32 capp3) (.string ⟨(digest (az ++ bs)).toArray⟩) (by kernel_rfl) cvp) hSp3 ?_ AllReadyH.nil)
  refine wpAnyH_take (i := 9) (v := (.bool true)) rfl (by kernel_rfl) (by kernel_rfl) (by kernel_rfl) (fun _ _ _ h => hQ _ _ _ _ _ h) (Or.inl ⟨by kernel_rfl, fun w _ => by go_simp⟩) (by assumption) ?_
  refine wpAnyH_take (i := 10) (v := (.bool true)) rfl (by kernel_rfl) (by kernel_rfl) (by kernel_rfl) (fun _ _ _ h => hQ _ _ _ _ _ h) (Or.inl ⟨by kernel_rfl, fun w _ => by go_simp⟩) (by assumption) ?_
  refine wpAnyH_take (i := 11) (v := (.slice yo 32 yc)) rfl (by kernel_rfl) (by kernel_rfl) (by kernel_rfl) (fun _ _ _ h => hQ _ _ _ _ _ h) (Or.inl ⟨by kernel_rfl, fun w _ => by go_simp⟩) (by assumption) ?_
  refine wpAnyH_take (i := 12) (v := (.string ⟨(digest (az ++ cs)).toArray⟩)) rfl (by kernel_rfl) (by kernel_rfl) (by kernel_rfl) (fun _ _ _ h => hQ _ _ _ _ _ h) (Or.inl ⟨by kernel_rfl, fun w hw => exec_conv 22 9 (.tmp 48) rfl (.slice yo 32 yc) (.string ⟨(digest (az ++ cs)).toArray⟩) (by kernel_rfl) (hy w hw)⟩) (by assumption) ?_
  refine wpAnyH_take (i := 14) (v := (.slice ao az.length ac)) rfl (by kernel_rfl) (by kernel_rfl) (by kernel_rfl) (fun _ _ _ h => hQ _ _ _ _ _ h) (Or.inl ⟨by kernel_rfl, fun w _ => by go_simp⟩) (by assumption) ?_
  refine wpAnyH_take (i := 16) (v := (.slice co cs.length cc)) rfl (by kernel_rfl) (by kernel_rfl) (by kernel_rfl) (fun _ _ _ h => hQ _ _ _ _ _ h) (Or.inl ⟨by kernel_rfl, fun w _ => by go_simp⟩) (by assumption) ?_
  have hSq0 : Fr (fun _ => False) w0 (wp3.alloc (.cells #[] 5)) := Fr.alloc (by assumption) _
  have hrq0 : Row (wp3.alloc (.cells #[] 5)) (.slice (some ⟨wp3.heap.size, 0, none⟩) 0 0) wp3.heap.size [] := Row.empty (Nat.zero_le _) (fun j hj => absurd hj (by omega))
  refine wpAnyH_ready (rs := [13]) (by kernel_rfl) (by simp) (readyH_runw (i := 13) rfl (by kernel_rfl) (.slice (some ⟨wp3.heap.size, 0, none⟩) 0 0) (wp3.alloc (.cells #[] 5)) (by kernel_rfl) hSq0 ?_ AllReadyH.nil)
  obtain ⟨aoq1, capq1, wq1, gq1, hrunq1, rowq1, frq1, hgq1⟩ := append_row (P := Tryd.prog) 22 22 22 5 i0 Tryd.underlying22 hi hz0 hz1 hz2 (bs := []) hrq0 (.slice ao az.length ac) az (src_slice Tryd.underlying22 _ ao ac az (hA.later hSq0).2.1) (by rw [List.length_nil]; omega)
  rw [List.nil_append] at hrunq1 rowq1
  have hszq := hSq0.size
  have hwlq : w0.heap.size ≤ wp3.heap.size := Fr.size (S := fun _ => False) (by assumption)
  have hSq1 : Fr (fun _ => False) w0 wq1 := hSq0.trans frq1 (fun i hi t => by omega)
  refine wpAnyH_ready (rs := [15]) (by kernel_rfl) (by simp) (readyH_runw (i := 15) rfl (by kernel_rfl) (.slice aoq1 az.length capq1) wq1 (exec_append 22 22 22 rfl (.tmp 50) (.tmp 51) rfl (.slice (some ⟨wp3.heap.size, 0, none⟩) 0 0) (.slice ao az.length ac) (by kernel_rfl) (by kernel_rfl) hrunq1) hSq1 ?_ AllReadyH.nil)
  obtain ⟨aoq2, capq2, wq2, gq2, hrunq2, rowq2, frq2, hgq2⟩ := append_row (P := Tryd.prog) 22 22 22 5 i0 Tryd.underlying22 hi hz0 hz1 hz2 rowq1 (.slice co cs.length cc) cs (src_slice Tryd.underlying22 _ _ _ cs (hC.later hSq1).2.1) (by omega)
  have hgq1b : w0.heap.size ≤ gq1 := by
    rcases hgq1 with ⟨e, _⟩ | e
    · omega
    · have := World.size_alloc_le wp3 (.cells #[] 5)
      omega
  have hSq2 : Fr (fun _ => False) w0 wq2 := hSq1.trans frq2 (fun i hi t => by omega)
  refine wpAnyH_ready (rs := [17]) (by kernel_rfl) (by simp) (readyH_runw (i := 17) rfl (by kernel_rfl) (.slice aoq2 (az ++ cs).length capq2) wq2 (exec_append 22 22 22 rfl (.tmp 52) (.tmp 53) rfl (.slice aoq1 az.length capq1) (.slice co cs.length cc) (by kernel_rfl) (by kernel_rfl) hrunq2) hSq2 ?_ AllReadyH.nil)
  obtain ⟨_, _, hshq, hlcq, _⟩ := rowq2.shape
  injection hshq with _ _ hceq
  subst hceq
  have HEq := sum_any wq2 (hT.later hSq2) aoq2 capq2 (az ++ cs) (rowq2.bat (by rw [List.length_append]; omega)).2 hlcq
  refine wpAnyH_ready (rs := [18]) (by kernel_rfl) (by simp) (readyH_call (i := 18) rfl (by kernel_rfl) 9 #[.slice aoq2 (az ++ cs).length capq2] (by kernel_rfl) HEq ?_ AllReadyH.nil)
  rintro e wq3 ⟨vq, rfl, gq3, rowq3, frq3, _⟩
  obtain ⟨aoq3, capq3, rfl, _⟩ := rowq3.shape
  have cvq := conv_bytes (rowq3.bat (by rw [digest_length]; omega)).2
  rw [digest_length] at cvq ⊢
  have hSq3 : Fr (fun _ => False) w0 wq3 := hSq2.trans frq3 (fun _ _ t => t)
  refine ⟨_, rfl, hSq3, ?_⟩
  refine wpAnyH_ready (rs := [19]) (by kernel_rfl) (by simp) (readyH_run (i := 19) rfl (by kernel_rfl) (.string ⟨(digest (az ++ cs)).toArray⟩) (exec_conv 22 9 (.tmp 55) rfl (.slice aoq3 32 capq3) (.string ⟨(digest (az ++ cs)).toArray⟩) (by kernel_rfl) cvq) hSq3 ?_ AllReadyH.nil)
  refine wpAnyH_take (i := 20) (v := (.bool true)) rfl (by kernel_rfl) (by kernel_rfl) (by kernel_rfl) (fun _ _ _ h => hQ _ _ _ _ _ h) (Or.inl ⟨by kernel_rfl, fun w _ => by go_simp⟩) (by assumption) ?_
  refine wpAnyH_take (i := 21) (v := (.bool true)) rfl (by kernel_rfl) (by kernel_rfl) (by kernel_rfl) (fun _ _ _ h => hQ _ _ _ _ _ h) (Or.inl ⟨by kernel_rfl, fun w _ => by go_simp⟩) (by assumption) ?_
  refine wpAnyH_take (i := 22) (v := (.bool true)) rfl (by kernel_rfl) (by kernel_rfl) (by kernel_rfl) (fun _ _ _ h => hQ _ _ _ _ _ h) (Or.inl ⟨by kernel_rfl, fun w _ => by go_simp⟩) (by assumption) ?_
  refine wpAnyH_done (by kernel_rfl) ?_ _
  refine q_frame ?_ (h wq3 (.slice (some ⟨w0.drew.heap.size, 0, none⟩) 0 0) (.slice aop1 az.length capp1) (.slice aop2 (az ++ bs).length capp2) (.slice aop3 32 capp3) (.slice (some ⟨wp3.heap.size, 0, none⟩) 0 0) (.slice aoq1 az.length capq1) (.slice aoq2 (az ++ cs).length capq2) (.slice aoq3 32 capq3) hSq3)
  kernel_rfl

end Go.Proofs.YtchdjfhenjbcnaaDoor
