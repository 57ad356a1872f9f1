import Derived.Test.YtjkghgcdkfkekaaGreatDoorYWC
import Derived.Test.YtjkghgcdkfkekaaGreatDoorQXF
import Derived.Lib.SlBytesConst
/- Contracts: errors.As at an error number, and Number. -/
namespace Go.Proofs.YtjkghgcdkfkekaaGreatDoor
open Go.RowKit Go.Extern.Stop Go.Stop Go.Extern

theorem Tryz.asValueP (t : Addr) (w : World) : (ReflectliteValue.unpack (.iface 125 (.pointer (some t)))).run Tryz.prog w
    = .ok (.agg #[.pointer (some ⟨2, 125, none⟩), .pointer (some ⟨w.heap.size, 0, none⟩), .int .u64 150]) (w.alloc (.cells #[.pointer (some t)] 125)) := by kernel_rfl
theorem Tryz.asTypeP (a : Addr) (w : World) : (ReflectliteValue.methodAny (ReflectliteValue.valueError "reflectlite.Value.Type" 0) (fun t _ _ _ => ReflectliteType.toType t) #[.agg #[.pointer (some ⟨2, 125, none⟩), .pointer (some a), .int .u64 150]]).run Tryz.prog w
    = .ok (.iface 181 (.agg #[.pointer (some ⟨2, 125, none⟩)])) w := by kernel_rfl
theorem Tryz.asMethodKind (h : Value) (w : World) : (Go.method 369 181 (.agg #[h]) "Kind").run Tryz.prog w = .ok (172, h) w := by kernel_rfl
theorem Tryz.asKindP (w : World) : ((ReflectliteType.abiMethod fun t => (fun a : Nat => Value.int IntKind.u8 (a : Int)) <$> Rtype.kind t) #[.pointer (some ⟨2, 125, none⟩)]).run Tryz.prog w = .ok (.int .u8 22) w := by kernel_rfl
theorem Tryz.asKindE (w : World) : ((ReflectliteType.abiMethod fun t => (fun a : Nat => Value.int IntKind.u8 (a : Int)) <$> Rtype.kind t) #[.pointer (some ⟨2, 67, none⟩)]).run Tryz.prog w = .ok (.int .u8 2) w := by kernel_rfl
theorem asMethod (z : Sem Value) (f : TypeId → Addr → Nat → Nat → Sem Value) (v : Value) : ∃ k, ReflectliteValue.method z f #[v] = (ReflectliteValue.parts v >>= k) ∧ ∀ t a fl, k (some (t, a, fl)) = f t a fl (fl % 32) := ⟨_, rfl, fun _ _ _ => rfl⟩
theorem Tryz.asPartsP (a : Addr) (w : World) : (ReflectliteValue.parts (.agg #[.pointer (some ⟨2, 125, none⟩), .pointer (some a), .int .u64 150])).run Tryz.prog w = .ok (some (125, a, 150)) w := by kernel_rfl
theorem Tryz.asNilP (a p : Addr) (W : World) (ha : W.cell? a = some (.pointer (some p))) :
    (ReflectliteValue.method (ReflectliteValue.valueError "reflectlite.Value.IsNil" 0) ReflectliteValue.isNil #[.agg #[.pointer (some ⟨2, 125, none⟩), .pointer (some a), .int .u64 150]]).run Tryz.prog W = .ok (.bool false) W := by
  obtain ⟨km, e1, e2⟩ := asMethod (ReflectliteValue.valueError "reflectlite.Value.IsNil" 0) ReflectliteValue.isNil (.agg #[.pointer (some ⟨2, 125, none⟩), .pointer (some a), .int .u64 150])
  rw [e1]
  simp only [Sem.run_bind, Tryz.asPartsP, Result.andThen, e2]
  simp [ReflectliteValue.isNil, loadVar, isAgg, underlying, Tryz.underlying125, ha, Result.andThen]
theorem Tryz.asMethodElem (h : Value) (w : World) : (Go.method 369 181 (.agg #[h]) "Elem").run Tryz.prog w = .ok (184, .agg #[h]) w := by kernel_rfl
theorem Tryz.asMethodImplements (h : Value) (w : World) : (Go.method 369 181 (.agg #[h]) "Implements").run Tryz.prog w = .ok (185, .agg #[h]) w := by kernel_rfl
theorem Tryz.asMethodAssignableTo (h : Value) (w : World) : (Go.method 369 181 (.agg #[h]) "AssignableTo").run Tryz.prog w = .ok (182, .agg #[h]) w := by kernel_rfl
theorem Tryz.asElemP (w : World) : (ReflectliteType.method ReflectliteType.elem #[.agg #[.pointer (some ⟨2, 125, none⟩)]]).run Tryz.prog w = .ok (.iface 181 (.agg #[.pointer (some ⟨2, 67, none⟩)])) w := by kernel_rfl
theorem Tryz.asImplementsE (w : World) : (ReflectliteType.relation "Implements" ReflectliteType.implements_ #[.agg #[.pointer (some ⟨2, 67, none⟩)], .iface 181 (.agg #[.pointer (some ⟨2, 34, none⟩)])]).run Tryz.prog w = .ok (.bool true) w := by kernel_rfl
theorem Tryz.asTypeOfE (v : Value) (w : World) : (ReflectliteType.typeOf #[.iface 67 v]).run Tryz.prog w = .ok (.iface 181 (.agg #[.pointer (some ⟨2, 67, none⟩)])) w := by kernel_rfl
theorem Tryz.asAssignableE (w : World) : (ReflectliteType.relation "AssignableTo" ReflectliteType.assignableTo #[.agg #[.pointer (some ⟨2, 67, none⟩)], .iface 181 (.agg #[.pointer (some ⟨2, 67, none⟩)])]).run Tryz.prog w = .ok (.bool true) w := by kernel_rfl
theorem Tryz.asValueE (n : Int) (w : World) : (ReflectliteValue.unpack (.iface 67 (.int .i64 n))).run Tryz.prog w
    = .ok (.agg #[.pointer (some ⟨2, 67, none⟩), .pointer (some ⟨w.heap.size, 0, none⟩), .int .u64 130]) (w.alloc (.cells #[.int .i64 n] 67)) := by kernel_rfl
theorem Tryz.asElemOfP (w : World) : (Rtype.elem? 125).run Tryz.prog w = .ok (some 67) w := by kernel_rfl
theorem Tryz.asMkE (p : Addr) (w : World) : (ReflectliteValue.mk 67 p ReflectliteValue.flagAddr).run Tryz.prog w = .ok (.agg #[.pointer (some ⟨2, 67, none⟩), .pointer (some p), .int .u64 386]) w := by kernel_rfl
theorem Tryz.asElemV (a p : Addr) (W : World) (ha : W.cell? a = some (.pointer (some p))) :
    (ReflectliteValue.method (ReflectliteValue.valueError "reflectlite.Value.Elem" 0) ReflectliteValue.elem #[.agg #[.pointer (some ⟨2, 125, none⟩), .pointer (some a), .int .u64 150]]).run Tryz.prog W
      = .ok (.agg #[.pointer (some ⟨2, 67, none⟩), .pointer (some p), .int .u64 386]) W := by
  obtain ⟨km, e1, e2⟩ := asMethod (ReflectliteValue.valueError "reflectlite.Value.Elem" 0) ReflectliteValue.elem (.agg #[.pointer (some ⟨2, 125, none⟩), .pointer (some a), .int .u64 150])
  rw [e1]
  simp only [Sem.run_bind, Tryz.asPartsP, Result.andThen, e2]
  simp [ReflectliteValue.elem, loadVar, isAgg, underlying, Tryz.underlying125, ha, Result.andThen, Tryz.asElemOfP, Tryz.asMkE]
theorem Tryz.asParts1 (a : Addr) (w : World) : (ReflectliteValue.parts (.agg #[.pointer (some ⟨2, 67, none⟩), .pointer (some a), .int .u64 386])).run Tryz.prog w = .ok (some (67, a, 386)) w := by kernel_rfl
theorem Tryz.asParts2 (a : Addr) (w : World) : (ReflectliteValue.parts (.agg #[.pointer (some ⟨2, 67, none⟩), .pointer (some a), .int .u64 130])).run Tryz.prog w = .ok (some (67, a, 130)) w := by kernel_rfl
theorem Tryz.asDirect (w : World) : (Rtype.directlyAssignable 67 67).run Tryz.prog w = .ok true w := by kernel_rfl
/-- Set at two values whose parts are known. -/
theorem asSetK (v x : Value) : ∃ k : Option (TypeId × Addr × Nat) → Option (TypeId × Addr × Nat) → Sem Value, ReflectliteValue.set #[v, x] = (ReflectliteValue.parts v >>= fun a => ReflectliteValue.parts x >>= fun b => k a b) ∧
    ∀ (dst : TypeId) (a : Addr) (fl : Nat) (src : TypeId) (b : Addr) (fl' : Nat) (w w' : World) (val : Value), (fl / ReflectliteValue.flagAddr % 2 == 0) = false → (loadVar src b).run Tryz.prog w = .ok val w → (Rtype.directlyAssignable dst src).run Tryz.prog w = .ok true w → (storeVar dst a val).run Tryz.prog w = .ok () w' →
      (k (some (dst, a, fl)) (some (src, b, fl'))).run Tryz.prog w = .ok (.tuple #[]) w' := by
  refine ⟨_, rfl, fun dst a fl src b fl' w w' val h1 h2 h3 h4 => ?_⟩
  simp [h1, h2, h3, h4, Result.andThen]

/-- Set at a variable of that type. -/
theorem Tryz.asSet (ta b : Addr) (n : Int) (old : Value) (W : World) (hb : W.cell? b = some (.int .i64 n)) (ht : W.cell? ta = some old) (hf : W.frozen? ta = false) :
    (ReflectliteValue.set #[.agg #[.pointer (some ⟨2, 67, none⟩), .pointer (some ta), .int .u64 386], .agg #[.pointer (some ⟨2, 67, none⟩), .pointer (some b), .int .u64 130]]).run Tryz.prog W
      = .ok (.tuple #[]) (W.setCell ta (.int .i64 n)) := by
  obtain ⟨ks, e1, e2⟩ := asSetK (.agg #[.pointer (some ⟨2, 67, none⟩), .pointer (some ta), .int .u64 386]) (.agg #[.pointer (some ⟨2, 67, none⟩), .pointer (some b), .int .u64 130])
  rw [e1]
  simp only [Sem.run_bind, Tryz.asParts1, Tryz.asParts2, Result.andThen]
  refine e2 67 ta 386 67 b 130 W _ (.int .i64 n) (by decide) ?_ (Tryz.asDirect W) ?_
  · simp [loadVar, isAgg, underlying, Tryz.underlying67, hb, Result.andThen]
  · simp [storeVar, Value.cells, storeCells, Addr.add]
    rw [run_store Tryz.prog W ta _ _ (by rfl)]
    simp [ht, hf]

set_option maxHeartbeats 4000000 in
theorem as_errno (n : Int) (t : Addr) (old : Value) (w : World) (hg : w.cell? ⟨0, 0, none⟩ = some (.iface 181 (.agg #[.pointer (some ⟨2, 34, none⟩)]))) (ht0 : w.cell? t = some old) (hf0 : w.frozen? t = false) :
    Calls Tryz.prog 57 #[errV n, .iface 125 (.pointer (some t))] w fun ev w' => ev = .returned (.bool true) ∧ w' = ((((w.alloc (.cells #[.pointer (some t)] 125)).alloc (.cells #[.pointer (some ⟨2, 125, none⟩), .pointer (some ⟨w.heap.size, 0, none⟩), .int .u64 150] 149)).alloc (.cells #[.pointer (some ⟨2, 125, none⟩), .pointer (some ⟨w.heap.size, 0, none⟩), .int .u64 150] 149)).alloc (.cells #[.int .i64 n] 67)).setCell t (.int .i64 n) := by
  have h1 := @run_callFunc_extern Tryz.prog 78 _ (fun args => ReflectliteValue.unpack (args.getD 0 (.tuple #[]))) Tryz.func78 (by kernel_rfl) (by kernel_rfl) (by kernel_rfl) (by kernel_rfl)
  have h2 := @run_callFunc_extern Tryz.prog 79 _ (ReflectliteValue.methodAny (ReflectliteValue.valueError "reflectlite.Value.Type" 0) (fun t _ _ _ => ReflectliteType.toType t)) Tryz.func79 (by kernel_rfl) (by kernel_rfl) (by kernel_rfl) (by kernel_rfl)
  have h3 := @run_callFunc_extern Tryz.prog 80 _ (ReflectliteValue.method (ReflectliteValue.valueError "reflectlite.Value.IsNil" 0) ReflectliteValue.isNil) Tryz.func80 (by kernel_rfl) (by kernel_rfl) (by kernel_rfl) (by kernel_rfl)
  have h4 := @run_callFunc_extern Tryz.prog 172 _ (ReflectliteType.abiMethod fun t => do pure (.int .u8 (← Rtype.kind t))) Tryz.func172 (by kernel_rfl) (by kernel_rfl) (by kernel_rfl) (by kernel_rfl)
  have h5 := @run_callFunc_extern Tryz.prog 184 _ (ReflectliteType.method ReflectliteType.elem) Tryz.func184 (by kernel_rfl) (by kernel_rfl) (by kernel_rfl) (by kernel_rfl)
  have h6 := @run_callFunc_extern Tryz.prog 185 _ (ReflectliteType.relation "Implements" ReflectliteType.implements_) Tryz.func185 (by kernel_rfl) (by kernel_rfl) (by kernel_rfl) (by kernel_rfl)
  have h7 := @run_callFunc_extern Tryz.prog 82 _ ReflectliteType.typeOf Tryz.func82 (by kernel_rfl) (by kernel_rfl) (by kernel_rfl) (by kernel_rfl)
  have h8 := @run_callFunc_extern Tryz.prog 182 _ (ReflectliteType.relation "AssignableTo" ReflectliteType.assignableTo) Tryz.func182 (by kernel_rfl) (by kernel_rfl) (by kernel_rfl) (by kernel_rfl)
  have h9 := @run_callFunc_extern Tryz.prog 107 _ (ReflectliteValue.method (ReflectliteValue.valueError "reflectlite.Value.Elem" 0) ReflectliteValue.elem) Tryz.func107 (by kernel_rfl) (by kernel_rfl) (by kernel_rfl) (by kernel_rfl)
  have h10 := @run_callFunc_extern Tryz.prog 108 _ ReflectliteValue.set Tryz.func108 (by kernel_rfl) (by kernel_rfl) (by kernel_rfl) (by kernel_rfl)
  have g1 := Tryz.asTypeOfE
  have g2 := Tryz.asMethodAssignableTo
  have g3 := Tryz.asAssignableE
  have g4 := Tryz.asValueE
  have g5 := Tryz.asValueP
  have g6 := Tryz.asTypeP
  have g7 := Tryz.asMethodKind
  have g8 := Tryz.asMethodElem
  have g9 := Tryz.asMethodImplements
  have ga := Tryz.asKindP
  have gb := Tryz.asKindE
  have gc := Tryz.asElemP
  have gd := Tryz.asImplementsE
  have htl : t.block < w.heap.size := by
    rcases Nat.lt_or_ge t.block w.heap.size with h | h
    · exact h
    · simp [World.cell?, Array.getElem?_eq_none h] at ht0
  have hgl : 0 < w.heap.size := by
    rcases Nat.lt_or_ge 0 w.heap.size with h | h
    · exact h
    · simp [World.cell?, Array.getElem?_eq_none h] at hg
  have ge := Tryz.asNilP ⟨w.heap.size, 0, none⟩ t ((w.alloc (.cells #[.pointer (some t)] 125)).alloc (.cells #[.pointer (some ⟨2, 125, none⟩), .pointer (some ⟨w.heap.size, 0, none⟩), .int .u64 150] 149)) (by simp)
  have hg2 : ((w.alloc (.cells #[.pointer (some t)] 125)).alloc (.cells #[.pointer (some ⟨2, 125, none⟩), .pointer (some ⟨w.heap.size, 0, none⟩), .int .u64 150] 149)).cell? ⟨0, 0, none⟩ = some (.iface 181 (.agg #[.pointer (some ⟨2, 34, none⟩)])) := by
    rw [World.cell?_alloc_lt _ _ ⟨0, 0, none⟩ (by first | (simp; done) | (simp; omega)), World.cell?_alloc_lt _ _ ⟨0, 0, none⟩ hgl]; exact hg
  have gf := Tryz.asElemV ⟨w.heap.size, 0, none⟩ t (((w.alloc (.cells #[.pointer (some t)] 125)).alloc (.cells #[.pointer (some ⟨2, 125, none⟩), .pointer (some ⟨w.heap.size, 0, none⟩), .int .u64 150] 149)).alloc (.cells #[.pointer (some ⟨2, 125, none⟩), .pointer (some ⟨w.heap.size, 0, none⟩), .int .u64 150] 149)) (by rw [World.cell?_alloc_lt _ _ ⟨w.heap.size, 0, none⟩ (by simp; omega)]; simp)
  have gg := Tryz.asSet t ⟨w.heap.size + 1 + 1 + 1, 0, none⟩ n old ((((w.alloc (.cells #[.pointer (some t)] 125)).alloc (.cells #[.pointer (some ⟨2, 125, none⟩), .pointer (some ⟨w.heap.size, 0, none⟩), .int .u64 150] 149)).alloc (.cells #[.pointer (some ⟨2, 125, none⟩), .pointer (some ⟨w.heap.size, 0, none⟩), .int .u64 150] 149)).alloc (.cells #[.int .i64 n] 67))
    (by rw [World.cell?_alloc_at _ _ _ _ (by simp)]; rfl)
    (by rw [World.cell?_alloc_lt _ _ t (by simp; omega), World.cell?_alloc_lt _ _ t (by simp; omega), World.cell?_alloc_lt _ _ t (by simp; omega), World.cell?_alloc_lt _ _ t htl]; exact ht0)
    (by rw [World.frozen?_alloc_old _ _ t (by simp; omega), World.frozen?_alloc_old _ _ t (by simp; omega), World.frozen?_alloc_old _ _ t (by simp; omega), World.frozen?_alloc_old _ _ t (Nat.ne_of_lt htl)]; exact hf0)
  go_enter Tryz.func57, Tryz.ntmps57
  go_wp2
  refine wp_loop_rounds 1 ?_
  rw [rounds_succ]
  go_wp2
  go_ret
  exact ⟨rfl, rfl⟩

/-- The cell of errors' own variable. -/
def ErrT (w : World) : Prop := w.cell? ⟨0, 0, none⟩ = some (.iface 181 (.agg #[.pointer (some ⟨2, 34, none⟩)]))

theorem number_nil (w : World) : Calls Tryz.prog 24 #[.nilIface] w fun e w' => e = .returned (.int .i64 0) ∧ Fr (fun _ => False) w w' := by
  go_enter Tryz.func24, Tryz.ntmps24
  go_wp2
  go_ret
  exact ⟨rfl, (Fr.refl _ _).alloc _⟩

theorem number_err (w : World) (hg : ErrT w) (n : Int) : Calls Tryz.prog 24 #[errV n] w fun e w' => e = .returned (.int .i64 n) ∧ Fr (fun _ => False) w w' := by
  have hb := Bx.new w #[.int .i64 0] 67
  have hF : Fr (fun _ => False) w (w.alloc (.cells #[.int .i64 0] 67)) := (Fr.refl _ _).alloc _
  have hgl : 0 < w.heap.size := World.block_lt_of_cell? _ _ hg
  have hg2 : (w.alloc (.cells #[.int .i64 0] 67)).cell? ⟨0, 0, none⟩ = some (.iface 181 (.agg #[.pointer (some ⟨2, 34, none⟩)])) := (hF.cell (a := ⟨0, 0, none⟩) hgl (fun t => t)).trans hg
  have AS := as_errno n ⟨w.heap.size, 0, none⟩ (.int .i64 0) _ hg2 (hb.cell 0) (hb.frozen 0)
  have AS' : Calls Tryz.prog 57 #[errV n, .iface 125 (.pointer (some ⟨w.heap.size, 0, none⟩))] (w.alloc (.cells #[.int .i64 0] 67)) fun e w' => e = .returned (.bool true) ∧ w'.cell? ⟨w.heap.size, 0, none⟩ = some (.int .i64 n) ∧ Hid (Fr (fun _ => False) w w') := by
    refine AS.mono ?_
    rintro e w' ⟨rfl, rfl⟩
    refine ⟨rfl, ?_, hide ?_⟩
    · exact (Bx.setCell (Bx.alloc (Bx.alloc (Bx.alloc (Bx.alloc hb _) _) _) _) 0 (.int .i64 n)).cell 0
    · exact ((((hF.alloc _).alloc _).alloc _).alloc _).setCell (p := ⟨w.heap.size, 0, none⟩) (fun t => absurd t (Nat.lt_irrefl _)) _
  have HA := hide AS'
  clear AS AS' hb hF hgl hg2 hg
  go_enter Tryz.func24, Tryz.ntmps24
  go_wp2_with fail
  refine (unhide HA).mono ?_
  rintro e w2 ⟨rfl, hc, hF2⟩
  go_wp2
  go_ret
  exact ⟨rfl, unhide hF2⟩

end Go.Proofs.YtjkghgcdkfkekaaGreatDoor

/- Fresh, and the document's examples of layer 10. -/
namespace Go.Proofs.YtjkghgcdkfkekaaGreatDoor
open Go.RowKit

theorem hlf_fresh (lim more : Nat) : hlf (2 + 2 * qH lim + more) = (2 * qH lim + more) / 2 := by unfold hlf; congr 1; omega

theorem lim_fresh (lim more : Nat) (h1 : 1 ≤ lim) (h2 : lim ≤ 16) (h3 : more ≤ 7) : Lim lim (2 + 2 * qH lim + more) ∧ qH lim ≤ 12 ∧ hlf (2 + 2 * qH lim + more) ≤ 15 := by
  have hq : qH lim ≤ 12 := by unfold qH; omega
  refine ⟨⟨h1, by omega, by omega, by omega⟩, hq, ?_⟩
  rw [hlf_fresh]; omega

set_option maxHeartbeats 400000 in
set_option maxRecDepth 20000 in
theorem fresh_any (w : World) (hT : TabAt w) (lim more : Nat) (h1 : 1 ≤ lim) (h2 : lim ≤ 16) (h3 : more ≤ 7) :
    Calls Tryz.prog 15 #[.int .i64 (lim : Int), .int .i64 (more : Int)] w fun e w' => ∃ hp qb, e = .returned (.tuple #[.pointer (some ⟨hp, 0, none⟩), .pointer (some ⟨qb, 0, none⟩)]) ∧ Hid (∃ b, QW w w' hp b qb (2 + 2 * qH lim + more) lim ⟨0, []⟩ false 3000 16 1 (fun _ _ => True)) := by
  obtain ⟨hl, hq12, hh⟩ := lim_fresh lim more h1 h2 h3
  have QS := qsec_any w (lim : Int)
  have hmay : mayQ (lim : Int) = true := by simp [mayQ]; omega
  rw [qsecF, hmay, if_pos rfl, Int.toNat_natCast] at QS
  obtain ⟨n, hn⟩ : ∃ n, n = 2 + 2 * qH lim + more := ⟨_, rfl⟩
  rw [← hn] at hl hh ⊢
  have NB := new_dn w (fun _ => 0) ⟨hT, rfl⟩ (fun _ _ => rfl) n (by omega)
  have hnI : (2 : Int) + 2 * (qH lim : Int) + (more : Int) = (n : Int) := by omega
  obtain ⟨sc, hsc⟩ : ∃ x : Int, x = 2 + 2 * (qH lim : Int) := ⟨_, rfl⟩
  rw [← hsc] at QS hnI
  have hwr : IntKind.i64.wrap (sc + (more : Int)) = (n : Int) := by rw [hnI, IntKind.wrap_i64]; omega
  have H1 : Hid (Calls Tryz.prog 8 #[.int .i64 (n : Int)] w fun e w' => ∃ hp, e = .returned (.pointer (some ⟨hp, 0, none⟩)) ∧ Hid (∃ R b, Dn w' R hp b n (Dk.new n) ∧ UpR w (fun _ => 0) R ∧ Fr (fun _ => False) w w')) := by
    refine hide (NB.mono ?_)
    rintro e w' ⟨R', p, b, rfl, k1, k2, k3⟩
    exact ⟨p, rfl, hide ⟨R', b, k1, k2, k3⟩⟩
  have HQ := hide QS
  have HH := hide (And.intro hl hh)
  have hnb : (n : Int) ≤ 1048576 := by have := hl.max; omega
  have hn0 : (0 : Int) ≤ (n : Int) := by omega
  have hw64 : wrap64 (n : Int) = (n : Int) := by unfold wrap64; omega
  clear NB QS hmay hn hsc h1 h2 h3 hl hh hT hq12
  go_enter Tryz.func15, Tryz.ntmps15
  go_wp2_with fail
  refine (unhide HQ).mono ?_
  rintro e w1 ⟨rfl, rfl⟩
  go_wp2_with fail
  refine (unhide H1).mono ?_
  rintro e w2 ⟨hp, rfl, HD⟩
  have H2 : Hid (Calls Tryz.prog 11 #[.pointer (some ⟨hp, 0, none⟩)] w2 fun e w' => ∃ p, e = .returned (.pointer (some ⟨p, 0, none⟩)) ∧ Hid (∃ R b, Dn w' R hp b n (Dk.new n) ∧ UpR w1 (fun _ => 0) R ∧ Fr (fun _ => False) w1 w' ∧ Dsk w' R p b n)) := by
    obtain ⟨R, b, D, u, f⟩ := unhide HD
    refine hide (D.disk.mono ?_)
    rintro e w' ⟨R', p, he, k1, k2, k3, k4⟩
    exact ⟨p, he, hide ⟨R', b, k2, u.trans k3 f.size, f.trans k4 (fun _ _ t => t), k1⟩⟩
  clear H1 HQ hwr
  go_wp2_with fail
  refine (unhide H2).mono ?_
  rintro e w3 ⟨p, rfl, HE⟩
  have H3 : Hid (Calls Tryz.prog 26 #[.pointer (some ⟨p, 0, none⟩), .int .i64 (lim : Int)] w3 fun e w' => ∃ qb, e = .returned (.tuple #[.pointer (some ⟨qb, 0, none⟩), .nilIface]) ∧ Hid (∃ b, QW w1 w' hp b qb n lim ⟨0, []⟩ false 3000 16 1 (fun _ _ => True))) := by
    obtain ⟨R, b, D, u, f, hk⟩ := unhide HE
    obtain ⟨hl, hh⟩ := unhide HH
    have hpot : (Dk.new n).pot = 0 := rfl
    have hz : hold (Dk.new n).look = (0, 1, 1) := hold_new0 _ rfl rfl
    have HOP := wopen_first (OK := fun l => qOf l = some ⟨0, []⟩) D hk rfl rfl hl.four hl.max (by omega) hz qOf_nil
    have HQO := qopen_of (OK := fun l => qOf l = some ⟨0, []⟩) hk hl (fun l hl => ⟨⟨0, []⟩, hl, ⟨by simp [Qr.last], by simp, fun b hb => by cases hb⟩⟩) D.tab.1.pos HOP
    refine hide (HQO.mono ?_)
    rintro e w' ⟨fail, d', R', u1, f1, D1, st, fnd, ar, e1, e2⟩
    obtain ⟨qb', l, G', h', a', rs', q2, O, he, hG, L, hok, hO⟩ := e2 (ar rfl)
    have hst := st.armed
    have hpt := st.pot
    have hq2 : q2 = ⟨0, []⟩ := by
      have := L.told
      rw [hok] at this
      injection this with this
      exact this.symm
    subst hq2
    exact ⟨qb', he, hide ⟨b, R', O, p, l, d', G', h', a', rs', rs'.length, 1, hst, by omega, by omega, Nat.le_refl _, L, fun h => absurd h (by decide), f.trans f1 (fun k hk t => t (by rw [u k hk])), fun k hk => ⟨by rw [u1 k (Nat.lt_of_lt_of_le hk f.size), u k hk], fun t => by have := hO k t; have := f.size; omega⟩, trivial⟩⟩
  clear H2 HD
  go_wp2_with fail
  refine (unhide H3).mono ?_
  rintro e w4 ⟨qb, rfl, HW⟩
  clear H3 HE
  go_wp2
  go_ret2
  exact ⟨hp, qb, rfl, HW⟩

end Go.Proofs.YtjkghgcdkfkekaaGreatDoor

/- The document's examples of layer 10. -/
namespace Go.Proofs.YtjkghgcdkfkekaaGreatDoor
open Go.RowKit

/-- One byte, as a constant's row. -/
theorem bat_mark (w : World) (x : UInt8) : BAt (w.alloc (.cells #[.int .u8 (x.toNat : Int)] 5 (1, 2))) (some ⟨w.heap.size, 0, none⟩) 1 [x] := by
  have h := Row.mark w #[.int .u8 (x.toNat : Int)] 5 [x] 1 rfl (by decide) (by simp) (fun j hj => by
    have hj' : j < 1 := hj
    have e : j = 0 := by omega
    subst e
    rfl)
  exact (h.bat (by simp)).2

theorem ErrT.later {w w' : World} (h : ErrT w) (hF : Fr (fun _ => False) w w') : ErrT w' := (hF.cell (World.block_lt_of_cell? _ _ h) (fun t => t)).trans h

theorem QW.up {w0 w : World} {hp b qb n lim : Nat} {q : Qr} {sf : Bool} {B C N B' C' N' : Nat} {Sd : World → (Nat → Prop) → Prop} (h : QW w0 w hp b qb n lim q sf B C N Sd) (hB : B ≤ B') (hC : C ≤ C') (hN : N ≤ N') : QW w0 w hp b qb n lim q sf B' C' N' Sd := h.mono hB hC hN

set_option maxHeartbeats 2000000 in
set_option maxRecDepth 20000 in
theorem awake10_any (w : World) (hT : TabAt w) (hE : ErrT w) : Calls Tryz.prog 14 #[] w fun e w' => e = .returned (.bool true) ∧ Fr (fun _ => False) w w' := by
  have HFR := hide (fresh_any w hT 2 0 (by omega) (by omega) (by omega))
  obtain ⟨N, hN⟩ : ∃ N, N = 2 + 2 * qH 2 + 0 := ⟨_, rfl⟩
  have hL : Lim 2 N ∧ hlf N ≤ 15 := by rw [hN]; have h := lim_fresh 2 0 (by omega) (by omega) (by omega); exact ⟨h.1, h.2.2⟩
  rw [← hN] at HFR
  have HL := hide (And.intro hL.1 (And.intro hL.2 hE))
  clear hN hL hT hE
  have QS := fun u => hide (qsec_any u 1)
  have hq1 : qsecF 1 = 8 := by decide +kernel
  rw [hq1] at QS
  clear hq1
  have hcs := fun (w : World) (C : Array Value) (n c : Nat) => Go.Lib.run_convert_bytes_const (P := Tryz.prog) w 28 5 C n c Tryz.underlying28 Tryz.underlying5
  go_enter Tryz.func14, Tryz.ntmps14
  go_wp2_with fail
  refine (unhide HFR).mono ?_
  rintro e w1 ⟨hp, qb, rfl, HW⟩
  clear HFR
  go_wp2_with fail
  refine (unhide (QS _)).mono ?_
  rintro e w1 ⟨rfl, rfl⟩
  clear QS
  have HP1 : Hid (Calls Tryz.prog 23 #[.pointer (some ⟨qb, 0, none⟩), .slice (some ⟨w1.heap.size, 0, none⟩) 1 1] (w1.alloc (.cells #[.int .u8 97] 5 (1, 2))) fun e w' => e = .returned (.tuple #[.int .i64 1, .nilIface]) ∧ Hid (∃ b, QW w w' hp b qb N 2 ⟨0, [[97]]⟩ false 10000 100 10 (fun _ _ => True))) := by
    obtain ⟨b, hW⟩ := unhide HW
    obtain ⟨hl, hh, hE⟩ := unhide HL
    have hW2 := hW.keep stable_true ((Fr.refl _ _).alloc (.cells #[.int .u8 97] 5 (1, 2)))
    have hbt := bat_mark w1 97
    refine hide ((hW2.putOk stable_true hl (by omega) (by omega) (by omega) _ 1 [97] hbt rfl).mono ?_)
    rintro e w' ⟨he, h⟩
    exact ⟨he, hide ⟨b, (unhide h).up (by omega) (by omega) (by omega)⟩⟩
  go_wp2_with fail
  refine (unhide HP1).mono ?_
  rintro e w2 ⟨rfl, HW'⟩
  clear HP1 HW
  have HW := HW'
  clear HW'
  have HP2 : Hid (Calls Tryz.prog 23 #[.pointer (some ⟨qb, 0, none⟩), .slice (some ⟨w2.heap.size, 0, none⟩) 1 1] (w2.alloc (.cells #[.int .u8 98] 5 (1, 2))) fun e w' => e = .returned (.tuple #[.int .i64 2, .nilIface]) ∧ Hid (∃ b, QW w w' hp b qb N 2 ⟨0, [[97], [98]]⟩ false 20000 200 20 (fun _ _ => True))) := by
    obtain ⟨b, hW⟩ := unhide HW
    obtain ⟨hl, hh, hE⟩ := unhide HL
    have hW2 := hW.keep stable_true ((Fr.refl _ _).alloc (.cells #[.int .u8 98] 5 (1, 2)))
    have hbt := bat_mark w2 98
    refine hide ((hW2.putOk stable_true hl (by omega) (by omega) (by omega) _ 1 [98] hbt rfl).mono ?_)
    rintro e w' ⟨he, h⟩
    exact ⟨he, hide ⟨b, (unhide h).up (by omega) (by omega) (by omega)⟩⟩
  go_wp2_with fail
  refine (unhide HP2).mono ?_
  rintro e w3 ⟨rfl, HW'⟩
  clear HP2 HW
  have HW := HW'
  clear HW'
  have HP3 : Hid (Calls Tryz.prog 23 #[.pointer (some ⟨qb, 0, none⟩), .slice (some ⟨w3.heap.size, 0, none⟩) 1 1] (w3.alloc (.cells #[.int .u8 99] 5 (1, 2))) fun e w' => e = .returned (.tuple #[.int .i64 0, errV 4]) ∧ Hid (∃ b, QW w w' hp b qb N 2 ⟨0, [[97], [98]]⟩ false 20000 200 20 (fun _ _ => True))) := by
    obtain ⟨b, hW⟩ := unhide HW
    obtain ⟨hl, hh, hE⟩ := unhide HL
    have hW2 := hW.keep stable_true ((Fr.refl _ _).alloc (.cells #[.int .u8 99] 5 (1, 2)))
    have hbt := bat_mark w3 99
    refine hide ((hW2.putNo stable_true _ 1 [99] hbt (by decide)).mono ?_)
    rintro e w' ⟨he, h⟩
    exact ⟨he, hide ⟨b, (unhide h).up (by omega) (by omega) (by omega)⟩⟩
  go_wp2_with fail
  refine (unhide HP3).mono ?_
  rintro e w4 ⟨rfl, HW'⟩
  clear HP3 HW
  have HW := HW'
  clear HW'
  have HP4 : Hid (Calls Tryz.prog 44 #[.pointer (some ⟨qb, 0, none⟩), .int .i64 1] w4 fun e w' => e = .returned .nilIface ∧ Hid (∃ b, QW w w' hp b qb N 2 ⟨1, [[98]]⟩ false 30000 300 30 (fun _ _ => True))) := by
    obtain ⟨b, hW⟩ := unhide HW
    obtain ⟨hl, hh, hE⟩ := unhide HL
    refine hide ((hW.ackYes stable_true hl (by omega) (by omega) (by omega) 1 (by decide)).mono ?_)
    rintro e w' ⟨he, h⟩
    exact ⟨he, hide ⟨b, (unhide h).up (by omega) (by omega) (by omega)⟩⟩
  go_wp2_with fail
  refine (unhide HP4).mono ?_
  rintro e w5 ⟨rfl, HW'⟩
  clear HP4 HW
  have HW := HW'
  clear HW'
  have HP5 : Hid (Calls Tryz.prog 23 #[.pointer (some ⟨qb, 0, none⟩), .slice (some ⟨w5.heap.size, 0, none⟩) 1 1] (w5.alloc (.cells #[.int .u8 99] 5 (1, 2))) fun e w' => e = .returned (.tuple #[.int .i64 3, .nilIface]) ∧ Hid (∃ b, QW w w' hp b qb N 2 ⟨1, [[98], [99]]⟩ false 40000 400 40 (fun _ _ => True))) := by
    obtain ⟨b, hW⟩ := unhide HW
    obtain ⟨hl, hh, hE⟩ := unhide HL
    have hW2 := hW.keep stable_true ((Fr.refl _ _).alloc (.cells #[.int .u8 99] 5 (1, 2)))
    have hbt := bat_mark w5 99
    refine hide ((hW2.putOk stable_true hl (by omega) (by omega) (by omega) _ 1 [99] hbt rfl).mono ?_)
    rintro e w' ⟨he, h⟩
    exact ⟨he, hide ⟨b, (unhide h).up (by omega) (by omega) (by omega)⟩⟩
  go_wp2_with fail
  refine (unhide HP5).mono ?_
  rintro e w6 ⟨rfl, HW'⟩
  clear HP5 HW
  have HW := HW'
  clear HW'
  have HP6 : Hid (Calls Tryz.prog 21 #[.pointer (some ⟨qb, 0, none⟩)] w6 fun e w' => e = .returned .nilIface ∧ Hid (∃ b, QW w w' hp b qb N 2 ⟨1, [[98], [99]]⟩ true 40002 400 40 (fun _ _ => True))) := by
    obtain ⟨b, hW⟩ := unhide HW
    refine hide ((hW.sync stable_true (by omega)).mono ?_)
    rintro e w' ⟨he, h⟩
    exact ⟨he, hide ⟨b, (unhide h)⟩⟩
  go_wp2_with fail
  refine (unhide HP6).mono ?_
  rintro e w7 ⟨rfl, HW'⟩
  clear HP6 HW
  have HW := HW'
  clear HW'
  have HP7 : Hid (Calls Tryz.prog 25 #[.pointer (some ⟨hp, 0, none⟩), .slice none 0 0] w7 fun e w' => e = .returned (.tuple #[]) ∧ Hid (∃ b, QD w w' hp b N 2 ⟨1, [[98], [99]]⟩ 40002 400 (fun _ _ => True))) := by
    obtain ⟨b, hW⟩ := unhide HW
    refine hide (((hW.qd stable_true).crash stable_true (by omega)).mono ?_)
    rintro e w' ⟨he, h⟩
    exact ⟨he, hide ⟨b, (unhide h)⟩⟩
  go_wp2_with fail
  refine (unhide HP7).mono ?_
  rintro e w8 ⟨rfl, HW'⟩
  clear HP7 HW
  have HW := HW'
  clear HW'
  have HP8 : Hid (Calls Tryz.prog 11 #[.pointer (some ⟨hp, 0, none⟩)] w8 fun e w' => ∃ p, e = .returned (.pointer (some ⟨p, 0, none⟩)) ∧ Hid (Calls Tryz.prog 26 #[.pointer (some ⟨p, 0, none⟩), .int .i64 2] w' fun e w'' => ∃ qb', e = .returned (.tuple #[.pointer (some ⟨qb', 0, none⟩), .nilIface]) ∧ Hid (∃ b, QW w w'' hp b qb' N 2 ⟨1, [[98], [99]]⟩ false 60000 600 1 (fun _ _ => True)))) := by
    obtain ⟨b, hW⟩ := unhide HW
    obtain ⟨hl, hh, hE⟩ := unhide HL
    refine hide ((hW.disk stable_true).mono ?_)
    rintro e w' ⟨p, he, h⟩
    obtain ⟨R, d, h1, h2, h3, h4, D, h5, h6, h7, h8, h9, hk⟩ := unhide h
    refine ⟨p, he, hide ((QD.open stable_true hl h1 h2 h3 h4 D h5 h6 h7 h8 h9 hk (by omega) (by omega)).mono ?_)⟩
    rintro e w'' ⟨qb', he, hq⟩
    exact ⟨qb', he, hide ⟨b, (unhide hq).up (by omega) (by omega) (by omega)⟩⟩
  go_wp2_with fail
  refine (unhide HP8).mono ?_
  rintro e w9 ⟨p, rfl, HO⟩
  clear HP8 HW
  go_wp2_with fail
  refine (unhide HO).mono ?_
  rintro e w10 ⟨qb2, rfl, HW⟩
  clear HO
  have HPK : Hid (Calls Tryz.prog 30 #[.pointer (some ⟨qb2, 0, none⟩), .int .i64 9] w10 fun e w' => ∃ lo lc gl bo bc, e = .returned (.slice (some ⟨gl, 0, none⟩) 2 lc) ∧ lo = some (⟨gl, 0, none⟩ : Addr) ∧ w'.cell? ⟨gl, 0, none⟩ = some (.int .i64 2) ∧ w'.cell? ⟨gl, 3, none⟩ = some (.slice bo 1 bc) ∧ Hid (BAt w' bo bc [99]) ∧ Hid (∃ b, QW w w' hp b qb2 N 2 ⟨1, [[98], [99]]⟩ false 60000 600 1 (fun _ _ => True))) := by
    obtain ⟨b, hW⟩ := unhide HW
    obtain ⟨hl, hh, hE⟩ := unhide HL
    refine hide ((hW.peek stable_true hl 9).mono ?_)
    rintro e w' ⟨⟨lo, lc, gl, ga, vs, he, hK, hP, hF, _⟩, h⟩
    have hvl : vs.length = 4 := hP.1
    obtain ⟨k1, _⟩ := hP.2 0 (by decide)
    obtain ⟨_, bo, bc, k2, k3, _⟩ := hP.2 1 (by decide)
    have hc : 0 < lc := by have := hK.le; omega
    obtain rfl := hK.ad hc
    have v0 : vs[0]'(by omega) = .int .i64 2 := by
      have := k1
      rw [List.getElem?_eq_getElem (by omega)] at this
      injection this
    have v3 : vs[3]'(by omega) = .slice bo 1 bc := by
      have := k2
      rw [List.getElem?_eq_getElem (by omega)] at this
      injection this
    exact ⟨_, lc, gl, bo, bc, he, rfl, by rw [hK.cells 0 (by omega), v0], by rw [hK.cells 3 (by omega), v3], hide k3, hide ⟨b, unhide h⟩⟩
  go_wp2_with fail
  refine (unhide HPK).mono ?_
  rintro e w11 ⟨lo, lc, gl, bo, bc, rfl, rfl, d0, d3, hbt, HW'⟩
  clear HPK HW
  have HW := HW'
  clear HW'
  have NE : Hid (Calls Tryz.prog 24 #[errV 4] w11 fun e w' => e = .returned (.int .i64 4) ∧ Fr (fun _ => False) w11 w') := by
    obtain ⟨b, hW⟩ := unhide HW
    obtain ⟨hl, hh, hE⟩ := unhide HL
    exact hide (number_err w11 (hE.later hW.fr) 4)
  have HX : Hid (∀ u, Fr (fun _ => False) w11 u → u.cell? ⟨gl, 0, none⟩ = some (.int .i64 2) ∧ u.cell? ⟨gl, 3, none⟩ = some (.slice bo 1 bc) ∧ (convert 28 9 (.slice bo 1 bc)).run Tryz.prog u = .ok (.string ⟨#[99]⟩) u ∧ Calls Tryz.prog 32 #[.pointer (some ⟨qb2, 0, none⟩)] u fun e w' => e = .returned (.int .i64 1) ∧ w' = u) := by
    obtain ⟨b, hW⟩ := unhide HW
    have hlt := World.block_lt_of_cell? _ _ d0
    exact hide (fun u hu => ⟨(hu.cell (a := ⟨gl, 0, none⟩) hlt (fun t => t)).trans d0, (hu.cell (a := ⟨gl, 3, none⟩) hlt (fun t => t)).trans d3, conv_bat ((unhide hbt).later hu), (hW.keep stable_true hu).acked⟩)
  clear d0 d3
  go_wp2_with fail
  refine (unhide NE).mono ?_
  rintro e w12 ⟨rfl, hF⟩
  obtain ⟨m0, m3, mc, MA⟩ := unhide HX w12 hF
  have HMA := hide MA
  have HF := hide hF
  clear MA hF NE
  go_wp2_with fail
  refine (unhide HMA).mono ?_
  rintro e w12 ⟨rfl, rfl⟩
  go_wp2
  go_ret
  obtain ⟨b, hW⟩ := unhide HW
  exact ⟨rfl, hW.fr.trans (unhide HF) (fun _ _ t => t)⟩

end Go.Proofs.YtjkghgcdkfkekaaGreatDoor

