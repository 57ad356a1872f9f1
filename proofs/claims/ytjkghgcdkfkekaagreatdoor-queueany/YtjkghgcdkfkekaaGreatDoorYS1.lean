import Derived.Test.YtjkghgcdkfkekaaGreatDoorLSX
import Derived.WideKeyEntry
/- Contract: Plant, on a disk on which nothing waits. -/
namespace Go.Proofs.YtjkghgcdkfkekaaGreatDoor
open Go.RowKit

theorem setBlock_twice (w : World) (b : Nat) (x y : Obj) : ChangeMaps.setBlock (ChangeMaps.setBlock w b x) b y = ChangeMaps.setBlock w b y := by
  simp [ChangeMaps.setBlock]

open Go.ChangeMaps in
/-- An entry of a map is looked for, or made; then a value is stored there: both together are one change of the map. -/
theorem entry_own {P : Program} {w : World} {t k e : TypeId} {H : Type} {R : Value → Option (DataW H × List MemPlace)} {b : Nat} {es : Array MapEntry} {clock : Nat} (K : Maps.Keyed P k) (ht : P.underlying t = some (.map k e)) {z : Value} (hz : ∀ u : World, (zeroValue e).run P u = .ok z u) (hb : w.heap[b]? = some (.map es clock)) (F : WideElems.Fit P k R es clock) (hkeys : ∀ x ∈ es.toList, ∃ l, keyOf P k x.key = some l)
    {key : Value} {kl : Lit} (hkey : keyOf P k key = some kl) :
    ∃ (v0 : Value) (st : Nat) (w1 : World), (Instr.mapEntry t (.map (some b)) key).run P w = .ok (.tuple #[v0, goInt st]) w1 ∧ (∃ o, w1 = setBlock w b o) ∧
      ∀ val : Value, ∃ w2, (Instr.entryStore t (.map (some b)) (goInt st) val).run P w1 = .ok () w2 ∧ (Instr.mapUpdate t (.map (some b)) key val).run P w = .ok () w2 := by
  obtain ⟨s1, s2, _⟩ := F.stamped
  have hlt : b < w.heap.size := (Array.getElem?_eq_some_iff.1 hb).1
  have hset : ∀ o, (setBlock w b o).heap[b]? = some o := fun o => by simp [setBlock, hlt]
  rcases K.find w hkey es.toList hkeys with ⟨h1, h2⟩ | ⟨j, e0, h1, h2, h3⟩
  · refine ⟨z, clock, setBlock w b (.map (es.push ⟨key, z, clock⟩) (clock + 1)), ?_, ⟨_, rfl⟩, fun val => ⟨setBlock w b (.map (es.push ⟨key, val, clock⟩) (clock + 1)), ?_, ?_⟩⟩
    · simp [Instr.mapEntry, run_underlying ht, MapKept.run_getObj_map hb, K.check w false hkey, h1, hz, MapKept.run_setObj_map _ hb, Result.andThen, setBlock]
    · have hidx : (es.push ⟨key, z, clock⟩).findIdx? (fun e => ((e.born : Nat) : Int) == ((clock : Nat) : Int)) = some es.size := by
        rw [WideElems.findIdx_arr]
        refine WideElems.findIdx_born (l := (es.push ⟨key, z, clock⟩).toList) (j := es.size) (e0 := ⟨key, z, clock⟩) ?_ (by simp)
        simp only [Array.toList_push, List.map_append, List.map_cons, List.map_nil]
        refine List.nodup_append.2 ⟨s2, by simp, fun a ha c hc e1 => ?_⟩
        simp only [List.mem_singleton] at hc
        obtain ⟨x, hx, rfl⟩ := List.mem_map.1 ha
        have := s1 x hx
        omega
      have hmod : (es.push ⟨key, z, clock⟩).modify es.size (fun e => { e with val := val }) = es.push ⟨key, val, clock⟩ := by
        apply Array.ext'
        rw [Array.toList_modify, Array.toList_push, Array.toList_push, ← Array.length_toList, WideElems.modify_last]
      have hw2 := hset (.map (es.push ⟨key, z, clock⟩) (clock + 1))
      rw [← setBlock_twice w b (.map (es.push ⟨key, z, clock⟩) (clock + 1)) (.map (es.push ⟨key, val, clock⟩) (clock + 1))]
      generalize setBlock w b (.map (es.push ⟨key, z, clock⟩) (clock + 1)) = w1 at hw2 ⊢
      simp [Instr.entryStore, MapKept.run_getObj_map hw2, asInt, asIntOf, goInt, hidx, hmod, MapKept.run_setObj_map _ hw2, Result.andThen, setBlock]
    · simp [Instr.mapUpdate, run_underlying ht, MapKept.run_getObj_map hb, K.check w false hkey, h1, MapKept.run_setObj_map _ hb, Result.andThen, setBlock]
  · have hj : es[j]? = some e0 := by simpa using h2
    have hsame : es.modify j (fun e => { e with key := key }) = es := by
      apply Array.ext'
      rw [Array.toList_modify, modify_eq_set _ _ _ _ h2]
      have : ({ e0 with key := key } : MapEntry) = e0 := by rw [← h3]
      rw [this]
      exact WideElems.set_self _ _ _ h2
    refine ⟨e0.val, e0.born, setBlock w b (.map es clock), ?_, ⟨_, rfl⟩, fun val => ⟨setBlock w b (.map (es.modify j (fun e' => { e' with key := key, val := val })) clock), ?_, ?_⟩⟩
    · simp [Instr.mapEntry, run_underlying ht, MapKept.run_getObj_map hb, K.check w false hkey, h1, hj, h3, K.stays w hkey, hsame, MapKept.run_setObj_map _ hb, Result.andThen, setBlock]
    · have hidx : es.findIdx? (fun e => ((e.born : Nat) : Int) == ((e0.born : Nat) : Int)) = some j := by
        rw [WideElems.findIdx_arr]
        exact WideElems.findIdx_born s2 h2
      have hmod : es.modify j (fun e => { e with val := val }) = es.modify j (fun e' => { e' with key := key, val := val }) := by
        apply Array.ext'
        rw [Array.toList_modify, Array.toList_modify, modify_eq_set _ _ _ _ h2, modify_eq_set _ _ _ _ h2, ← h3]
      have hw2 := hset (.map es clock)
      rw [← setBlock_twice w b (.map es clock) (.map (es.modify j (fun e' => { e' with key := key, val := val })) clock)]
      generalize setBlock w b (.map es clock) = w1 at hw2 ⊢
      simp [Instr.entryStore, MapKept.run_getObj_map hw2, asInt, asIntOf, goInt, hidx, hmod, MapKept.run_setObj_map _ hw2, Result.andThen, setBlock]
    · simp [Instr.mapUpdate, run_underlying ht, MapKept.run_getObj_map hb, K.check w false hkey, h1, hj, h3, K.stays w hkey, MapKept.run_setObj_map _ hb, Result.andThen, setBlock]

/-- The same of a map of sectors. -/
theorem entry_any {w : World} {R : Nat → Nat} {m n : Nat} {f : Nat → Bs} {D : DataW Value} (h : MapAt w R m n f D) (hn : n < 1152921504606846976) (hm : R m ≠ 5) (a : Nat) (ha : a < 4294967296) (v : Value) (bs : Bs) (hs : Sec w R v bs) :
    ∃ v0 st w1, (Instr.mapEntry 80 (.map (some m)) (.int .i64 (a : Int))).run Tryz.prog w = .ok (.tuple #[v0, goInt st]) w1 ∧ Fr (fun k => k = m) w w1 ∧ w1.heap.size = w.heap.size ∧
      ∃ w2, (Instr.entryStore 80 (.map (some m)) (goInt st) v).run Tryz.prog w1 = .ok () w2 ∧ MapAt w2 R m (n + 1) (fun c => if c = a then bs else f c) (D.put (.int .i64 (a : Int)) (.held v)) ∧ Fr (fun k => k = m) w w2 ∧ w2.heap.size = w.heap.size := by
  have hlt := h.own.lt
  obtain ⟨es, clock, hb, F, _, _⟩ := h.own
  obtain ⟨v0, st, w1, r1, ⟨o, r2⟩, r3⟩ := entry_own keyed3 Tryz.underlying80 zero37 hb F (fun x hx => by obtain ⟨y, hy⟩ := F.reads x hx; exact ⟨_, WideElems.rd_key hy⟩) (intKey a ha)
  obtain ⟨w2, q1, q2⟩ := r3 v
  obtain ⟨w2', u1, u2, u3, u4⟩ := update_any h hn hm a ha v bs hs
  have e : w2 = w2' := (Result.ok.inj (q2.symm.trans u1)).2
  subst e
  refine ⟨v0, st, w1, r1, ?_, by rw [r2]; simp [ChangeMaps.setBlock], w2, q1, u2, u3, u4⟩
  rw [r2]
  refine ⟨rfl, rfl, rfl, by simp [ChangeMaps.setBlock], fun k hk hne => ?_⟩
  have hne' : ¬ m = k := fun e => hne e.symm
  simp [ChangeMaps.setBlock, hne']

/-- Bytes copied into a new sector, as many as it takes. -/
theorem copy_long {W : World} {x : Nat} (hx : Bx W x (bytesV (zeros 512)).toArray 5) (ao : Option Addr) (cap : Nat) (bs : Bs) (hB : BAt W ao cap bs) (ty : TypeId) :
    ∃ W' k, (Builtin.copy_ #[28, 28] ty #[.slice (some ⟨x, 0, none⟩) 512 512, .slice ao bs.length cap]).run Tryz.prog W = .ok (goInt k) W' ∧ Bx W' x (bytesV (fillS (bs.take 512))).toArray 5 ∧ Fr (fun k => k = x) W W' ∧ W'.heap.size = W.heap.size := by
  by_cases hl : bs.length ≤ 512
  · obtain ⟨W', h1, h2, h3, h4⟩ := copy_any hx ao cap bs hB hl ty
    rw [List.take_of_length_le hl]
    exact ⟨W', _, h1, h2, h3, h4⟩
  · obtain ⟨b, off, rfl, hc⟩ := hB.2.1 (by omega)
    have hmin : Nat.min bs.length 512 = 512 := Nat.min_eq_right (by omega)
    have htl : (bs.take 512).length = 512 := by rw [List.length_take]; omega
    have hrun := run_copy_row (P := Tryz.prog) W 28 28 ty 5 x 0 512 512 ⟨b, off, none⟩ bs.length cap (bytesV (zeros 512)).toArray 5 (bytesV (bs.take 512)) Tryz.underlying28 Tryz.size5' hx (by rw [bytesV_length, hmin, htl])
      (fun j v hj => by
        have hjl : j < (bs.take 512).length := by have := (List.getElem?_eq_some_iff.1 hj).1; rwa [bytesV_length] at this
        rw [bytesV_get _ _ hjl] at hj
        rw [Addr.add_lit, ← hj]
        have := hc j (by omega)
        rw [this, List.getElem_take])
      (by rw [List.size_toArray, bytesV_length, bytesV_length, zeros_length, htl]; omega) (bytesV_one _)
    rw [bytesV_length] at hrun
    have e : ((bytesV (zeros 512)).toArray.toList.take 0 ++ bytesV (bs.take 512) ++ (bytesV (zeros 512)).toArray.toList.drop (0 + (bs.take 512).length)).toArray = (bytesV (fillS (bs.take 512))).toArray := by
      rw [Nat.zero_add, List.take_zero, List.nil_append, zeros_drop]; rfl
    rw [e] at hrun
    exact ⟨_, _, hrun, setRow_heap _ _ _ _ _ _ hx, (Fr.refl (fun k => k = x) _).setRow (fun _ => rfl) _, by simp⟩

section
variable {ev : Operand → Value} {o : Oper} {w : World}
theorem exMv {x : Operand} {v : Value} (ho : o.op = .move x) (hx : ev x = v) : (execOp ev o).run Tryz.prog w = .ok (.value v) w := by
  simp [execOp, ho, hx, go_sem]
theorem exLd_map {x : Operand} {A : Addr} {q : Option Nat} (ho : o.op = .load 80 x) (hx : ev x = .pointer (some A)) (hc : w.cell? A = some (.map q)) : (execOp ev o).run Tryz.prog w = .ok (.value (.map q)) w := by
  simp [execOp, ho, hx, go_sem, hc]
theorem exFd_hand {x : Operand} {B : Nat} (ho : o.op = .fieldAddr 85 x 0) (hx : ev x = .pointer (some ⟨B, 0, none⟩)) : (execOp ev o).run Tryz.prog w = .ok (.value (.pointer (some ⟨B, 0, none⟩))) w := by
  simp [execOp, ho, hx, go_sem]
theorem exFd_bx1 {x : Operand} {B : Nat} (ho : o.op = .fieldAddr 83 x 1) (hx : ev x = .pointer (some ⟨B, 0, none⟩)) : (execOp ev o).run Tryz.prog w = .ok (.value (.pointer (some ⟨B, 1, none⟩))) w := by
  simp [execOp, ho, hx, go_sem]
theorem exFd_bx2 {x : Operand} {B : Nat} (ho : o.op = .fieldAddr 83 x 2) (hx : ev x = .pointer (some ⟨B, 0, none⟩)) : (execOp ev o).run Tryz.prog w = .ok (.value (.pointer (some ⟨B, 2, none⟩))) w := by
  simp [execOp, ho, hx, go_sem]
theorem exEnt {m y : Operand} {mv yv v : Value} {w' : World} (ho : o.op = .mapEntry 80 m y) (hm : ev m = mv) (hy : ev y = yv) (hrun : (Instr.mapEntry 80 mv yv).run Tryz.prog w = .ok v w') : (execOp ev o).run Tryz.prog w = .ok (.value v) w' := by
  simp [execOp, ho, hm, hy, hrun, Result.andThen]
theorem exEx1 {x : Operand} {u v : Value} (ho : o.op = .extract x 1) (hx : ev x = .tuple #[u, v]) : (execOp ev o).run Tryz.prog w = .ok (.value v) w := by
  simp [execOp, ho, hx, go_sem]
theorem exEst {m s y : Operand} {mv sv yv : Value} {w' : World} (ho : o.op = .entryStore 80 m s y) (hm : ev m = mv) (hs : ev s = sv) (hy : ev y = yv) (hrun : (Instr.entryStore 80 mv sv yv).run Tryz.prog w = .ok () w') : (execOp ev o).run Tryz.prog w = .ok .skip w' := by
  simp [execOp, ho, hm, hs, hy, hrun, Result.andThen]
end

/-- A sector planted. -/
def Dk.plant (d : Dk) (a : Nat) (s : Bs) : Dk := { d with safe := fun c => if c = a then s else d.safe c, wait := [], cnt := d.cnt + 1 }

/-- What region 3 leaves. -/
def PlR (w : World) (R : Nat → Nat) (b : Nat) (d : Dk) (a : Nat) (s : Bs) (w' : World) : Prop :=
  ∃ ms mn Ds Dn ao cap, Bx w' b (boxC d ms mn ao cap) 83 ∧ R ms = 2 ∧ R mn = 3 ∧ MapAt w' R ms (d.cnt + 1) (fun c => if c = a then s else d.safe c) Ds ∧ MapAt w' R mn (d.cnt + 1) (fun c => if c = a then s else d.look c) Dn ∧ Fr (fun k => k = ms ∨ k = mn) w w'

set_option maxHeartbeats 2000000 in
set_option maxRecDepth 20000 in
theorem plant_any (w : World) (R : Nat → Nat) (hp b : Nat) (d : Dk) (h : Hnd w R hp b) (hD : DAt w R b d) (hw0 : d.wait = []) (hcnt : d.cnt < 576460752303423488) (z : Int) (bo : Option Addr) (bc : Nat) (bs : Bs) (hB : BAt w bo bc bs) :
    Calls Tryz.prog 9 #[.pointer (some ⟨hp, 0, none⟩), .int .i64 z, .slice bo bs.length bc] w fun e w' => e = .returned (.tuple #[]) ∧ ∃ R', DAt w' R' b (if 0 ≤ z ∧ z < (d.many : Int) then d.plant z.toNat (fillS (bs.take 512)) else d) ∧ UpR w R R' ∧ Fr (DS R) w w' := by
  have lp := h.lt
  have lb := hD.lt
  have rb := hD.role
  have rp := h.role
  have hmany := hD.many
  have c0 : w.cell? ⟨hp, 0, none⟩ = some (.pointer (some ⟨b, 0, none⟩)) := h.c0
  have cm : w.cell? ⟨b, 0, none⟩ = some (.int .i64 (d.many : Int)) := by
    obtain ⟨ms, mn, Ds, Dn, ao, cap, gw, xs, hb, _⟩ := hD.box
    exact hb.cell 0
  by_cases hz0 : z < 0
  · have hz : ¬ (0 ≤ z ∧ z < (d.many : Int)) := by omega
    rw [if_neg hz]
    have h1 : decide (z < 0) = true := by simp; omega
    have HD := hide hD
    clear hB hD h hz rb rp hmany c0 cm lp lb hcnt hw0
    go_enter Tryz.func9, Tryz.ntmps9
    go_wp2
    refine bodyPost_ret (results_none rfl _ _ _) rfl ?_
    exact ⟨rfl, R, unhide HD, UpR.refl _ _, Fr.refl _ _⟩
  · by_cases hz1 : (d.many : Int) ≤ z
    · have hz : ¬ (0 ≤ z ∧ z < (d.many : Int)) := by omega
      rw [if_neg hz]
      have h1 : decide (z < 0) = false := by simp; omega
      have h2 : decide (z ≥ (d.many : Int)) = true := by simp; omega
      have h3 : decide ((d.many : Int) ≤ z) = true := by simp; omega
      have HD := hide hD
      clear hB hD h hz rb rp hmany lp lb hcnt hw0
      go_enter Tryz.func9, Tryz.ntmps9
      go_wp2
      refine bodyPost_ret (results_none rfl _ _ _) rfl ?_
      exact ⟨rfl, R, unhide HD, UpR.refl _ _, Fr.refl _ _⟩
    · have hz : 0 ≤ z ∧ z < (d.many : Int) := by omega
      rw [if_pos hz]
      obtain ⟨a, rfl⟩ : ∃ a : Nat, z = (a : Int) := ⟨z.toNat, by omega⟩
      rw [Int.toNat_natCast]
      have ham : a < d.many := by omega
      have h1 : decide ((a : Int) < 0) = false := by simp
      have h2 : decide ((a : Int) ≥ (d.many : Int)) = false := by simp; omega
      have h3 : decide ((d.many : Int) ≤ (a : Int)) = false := by simp; omega
      have h4 : decide (d.many ≤ a) = false := by simp; omega
      obtain ⟨s, hs⟩ : ∃ s, s = fillS (bs.take 512) := ⟨_, rfl⟩
      have hs512 : s.length = 512 := by rw [hs]; exact fillS_length _ (by rw [List.length_take]; omega)
      rw [← hs]
      obtain ⟨x, hx⟩ : ∃ x, x = w.heap.size := ⟨_, rfl⟩
      have hmk : ∀ w' : World, (Instr.makeSlice 28 (.int .i64 512) (.int .i64 512)).run Tryz.prog w' = .ok (.slice (some ⟨w'.heap.size, 0, none⟩) 512 512) (w'.alloc (.cells (madeCells #[.int .u8 0] 512) 5)) := fun w' => run_make_row' (P := Tryz.prog) 28 5 (.int .u8 0) 1 Tryz.underlying28 Tryz.info5 rfl .i64 .i64 512 (by omega) (by omega) w'
      have hbx : Bx (w.alloc (.cells (madeCells #[.int .u8 0] 512) 5)) w.heap.size (bytesV (zeros 512)).toArray 5 := by rw [made_zeros]; exact Bx.new _ _ _
      have hF1 : Fr (fun _ => False) w (w.alloc (.cells (madeCells #[.int .u8 0] 512) 5)) := (Fr.refl _ _).alloc _
      obtain ⟨w2, kk, hcp, hb2, hF2, hz2⟩ := copy_long hbx bo bc bs (hB.later hF1) 3
      rw [← hx] at hb2 hF2
      rw [← hs] at hb2
      have hsz2 : w2.heap.size = w.heap.size + 1 := by rw [hz2]; simp
      have hFw : Fr (fun _ => False) w w2 := hF1.trans hF2 (fun k hk t => by omega)
      have hR' : UpR w R (upd R x 5) := fun k hk => upd_other _ _ (by omega)
      have hD2 : DAt w2 (upd R x 5) b d := hD.up hFw (fun k t => t.elim) hR' (fun k hk => by rw [upd_other _ _ (by omega)]; exact hD.zero k (by omega))
      have hH2 : Hnd w2 (upd R x 5) hp b := h.frame hFw (fun _ _ t => t) hR'
      have hsec : Sec w2 (upd R x 5) (.slice (some ⟨x, 0, none⟩) 512 512) s := ⟨hs512, .inr ⟨x, 512, rfl, Nat.le_refl _, upd_same _ _ _, by omega, fun j hj => by rw [hb2.cell, List.getElem?_toArray, bytesV_get _ _ hj]⟩⟩
      have HH := hide (And.intro hD2 (And.intro hH2 (And.intro hsec (And.intro hFw (And.intro hR' (And.intro hsz2 (And.intro hcnt (And.intro hw0 (And.intro ham (And.intro hs512 hx))))))))))
      have HD := hide (And.intro hD h)
      clear hB hD h hD2 hH2 hsec hFw hR' hbx hb2 hF1 hF2 hs hs512 rb rp hcnt hw0 ham hz hz0 hz1 hmany lp lb
      go_enter Tryz.func9, Tryz.ntmps9
      go_upto_region 3 with (fail)
      rw [← hx]
      obtain ⟨hD2, hH2, hsec, hFw, hR', hsz2, hcnt, hw0, ham, hs512, _⟩ := unhide HH
      obtain ⟨R', hRe⟩ : ∃ R', R' = upd R x 5 := ⟨_, rfl⟩
      rw [← hRe] at hD2 hH2 hsec hR'
      obtain ⟨ms, mn, Ds, Dn, ao, cap, gw, xs, hb, m3, m4, m5, m6, m7⟩ := hD2.box
      have lb := hD2.lt
      have lp := hH2.lt
      have rb := hD2.role
      have rp := hH2.role
      have hmany := hD2.many
      have hne : ms ≠ mn := fun e => by rw [e, m4] at m3; omega
      have m5d : MapAt w2.drew R' ms d.cnt d.safe Ds := m5.frame (S := fun _ => False) (Fr.refl _ _).drew (fun _ _ t => t) (fun t => t) (fun _ _ => rfl)
      have hsecd : Sec w2.drew R' (.slice (some ⟨x, 0, none⟩) 512 512) s := hsec.frame (S := fun _ => False) (Fr.refl _ _).drew (fun _ _ t => t) (fun _ _ => rfl)
      obtain ⟨v0, st, w3, hr1, f1, z1, w4, hr2, M1, f2, z2⟩ := entry_any m5d (by omega) (by omega) a (by omega) _ s hsecd
      have f2' : Fr (fun k => k = ms) w2 w4 := ((Fr.refl _ w2).drew).trans f2 (fun _ _ t => t)
      have n5 : ∀ k, R' k = 5 → ¬ (k = ms) := fun k hk e => by rw [e] at hk; omega
      have m6d : MapAt w4 R' mn d.cnt d.look Dn := m6.frame f2' n5 (fun e => hne e.symm) (fun _ _ => rfl)
      have hsec4 : Sec w4 R' (.slice (some ⟨x, 0, none⟩) 512 512) s := hsecd.frame f2 n5 (fun _ _ => rfl)
      obtain ⟨v0', st', w5, hr3, f3, z3, w6, hr4, M2, f4, z4⟩ := entry_any m6d (by omega) (by omega) a (by omega) _ s hsec4
      have hT0 : Fr (fun k => k = ms ∨ k = mn) w2 w2.drew := (Fr.refl _ _).drew
      have hT1 : Fr (fun k => k = ms ∨ k = mn) w2 w3 := hT0.trans f1 (fun _ _ t => .inl t)
      have hT2 : Fr (fun k => k = ms ∨ k = mn) w2 w4 := f2'.mono (fun _ _ t => .inl t)
      have hT3 : Fr (fun k => k = ms ∨ k = mn) w2 w5 := hT2.trans f3 (fun _ _ t => .inr t)
      have hT4 : Fr (fun k => k = ms ∨ k = mn) w2 w6 := hT2.trans f4 (fun _ _ t => .inr t)
      have nS : ∀ k, R' k ≠ 2 → R' k ≠ 3 → ¬ (k = ms ∨ k = mn) := fun k h2 h3 t => by rcases t with t | t <;> (rw [t] at h2 h3; omega)
      have hh : ∀ w', Fr (fun k => k = ms ∨ k = mn) w2 w' → w'.cell? ⟨hp, 0, none⟩ = some (.pointer (some ⟨b, 0, none⟩)) := fun w' hT => (hH2.box.frame hT (nS hp (by omega) (by omega))).cell 0
      have hb1 : ∀ w', Fr (fun k => k = ms ∨ k = mn) w2 w' → w'.cell? ⟨b, 1, none⟩ = some (.map (some ms)) := fun w' hT => (hb.frame hT (nS b (by omega) (by omega))).cell 1
      have hb2 : ∀ w', Fr (fun k => k = ms ∨ k = mn) w2 w' → w'.cell? ⟨b, 2, none⟩ = some (.map (some mn)) := fun w' hT => (hb.frame hT (nS b (by omega) (by omega))).cell 2
      have c60 := hh w6 hT4
      have hb6 := hb.frame hT4 (nS b (by omega) (by omega))
      have c63 : w6.cell? ⟨b, 3, none⟩ = some (.slice ao 0 cap) := by have := hb6.cell 3; rw [this]; simp [boxC, hw0]
      have z63 : w6.frozen? ⟨b, 3, none⟩ = false := hb6.frozen 3
      have HE : Hid (∃ R', DAt (w6.setCell ⟨b, 3, none⟩ (.slice none 0 0)) R' b (d.plant a s) ∧ UpR w R R' ∧ Fr (DS R) w (w6.setCell ⟨b, 3, none⟩ (.slice none 0 0))) := by
        obtain ⟨hD, h⟩ := unhide HD
        have hFs : Fr (fun k => k = b) w6 (w6.setCell ⟨b, 3, none⟩ (.slice none 0 0)) := (Fr.refl (fun k => k = b) _).setCell (fun _ => rfl) _
        have nb : ∀ k, R' k ≠ 1 → ¬ k = b := fun k hk e => hk (by rw [e]; exact rb)
        have hsz6 : w6.heap.size = w2.heap.size := by rw [z4, z2]; rfl
        have hszs : (w6.setCell ⟨b, 3, none⟩ (.slice none 0 0)).heap.size = w6.heap.size := by simp
        have hbx := hb6.setCell 3 (.slice none 0 0)
        have hbe : (boxC d ms mn ao cap).setIfInBounds 3 (.slice none 0 0) = boxC (d.plant a s) ms mn none 0 := by simp [boxC, Dk.plant]
        rw [hbe] at hbx
        have M1' : MapAt w6 R' ms (d.cnt + 1) (fun c => if c = a then s else d.safe c) (Ds.put (.int .i64 (a : Int)) (.held (.slice (some ⟨x, 0, none⟩) 512 512))) := M1.frame f4 (fun k hk e => by rw [e] at hk; omega) hne (fun _ _ => rfl)
        have hlook : (fun c => if c = a then s else d.look c) = (d.plant a s).look := by
          have e1 : d.look = d.safe := by rw [Dk.look, hw0, over_nil]
          have e2 : (d.plant a s).look = (d.plant a s).safe := by rw [Dk.look]; exact over_nil _
          rw [e1, e2]; rfl
        rw [hlook] at M2
        have M1s := M1'.frame hFs (fun k hk => nb k (by omega)) (nb ms (by omega)) (fun _ _ => rfl)
        have M2s := M2.frame hFs (fun k hk => nb k (by omega)) (nb mn (by omega)) (fun _ _ => rfl)
        refine hide ⟨R', ⟨fun k hk => ?_, rb, ⟨ms, mn, _, _, none, 0, 0, [], hbx, m3, m4, M1s, M2s, ⟨rfl, KRow.nil _ _ _, fun hc => absurd hc (by omega), fun i hi => absurd hi (by simp)⟩⟩, hmany, hD2.acts, fun p hp => (by cases hp), Nat.zero_le _⟩, hR', ?_⟩
        · rw [hRe, upd_other _ _ (by omega)]
          exact hD.zero k (by omega)
        · have hFa : Fr (fun k => (k = ms ∨ k = mn) ∨ k = b) w (w6.setCell ⟨b, 3, none⟩ (.slice none 0 0)) := (((hFw.mono (fun _ _ t => t.elim)).trans hT4 (fun _ _ t => .inl t)).trans hFs (fun _ _ t => .inr t))
          refine hFa.mono (fun k hk t => ?_)
          have e := hR' k hk
          rcases t with (t | t) | t
          · rw [t] at e; exact ⟨by rw [t]; omega, by rw [t]; omega⟩
          · rw [t] at e; exact ⟨by rw [t]; omega, by rw [t]; omega⟩
          · rw [t] at e; exact ⟨by rw [t]; omega, by rw [t]; omega⟩
      clear HH HD hD2 hH2 hsec hFw hR' hcnt hw0 ham hs512 hb m3 m4 m5 m6 m7 m5d hsecd f1 f2 f2' n5 m6d hsec4 f3 M1 M2 f4 nS hb6 hT4 hRe
      refine wp_normal ?_
      refine wp_region_G (k := 23) (T := Fr (fun k => k = ms ∨ k = mn) w2) (by kernel_rfl) ?_
      refine wpAnyG_take (i := 0) (v := .pointer (some ⟨hp, 0, none⟩)) rfl (by kernel_rfl) (by kernel_rfl) (by kernel_rfl) (by kernel_rfl) (fun _ _ _ h => by cases h.1) (.inl ⟨by rfl, fun w' hT => exMv (by rfl) (by rfl)⟩) hT0 ?_
      change wpAnyG _ _ _ _ _ _ _ _ { tmps := #[.pointer (some ⟨hp, 0, none⟩), .int .i64 (a : Int), _, _, _, _, .slice (some ⟨x, 0, none⟩) 512 512, _, _, _, _, _, _, _, _, _, _, _, _, _, _, _, _, _, _, _, _, .pointer (some ⟨hp, 0, none⟩), _, _, _, _, _, _, _, _, _, _, _, _, _, _, _, _, _, _, _, _, _, _, _, _, _, _, _, _, _, _, _, _, _, _, _, _, _, _, _, _, _, _, _, _, _, _, _, _, _], defers := [] } _
      refine wpAnyG_take (i := 1) (v := .pointer (some ⟨hp, 0, none⟩)) rfl (by kernel_rfl) (by kernel_rfl) (by kernel_rfl) (by kernel_rfl) (fun _ _ _ h => by cases h.1) (.inl ⟨by rfl, fun w' hT => exNil (by rfl) (by rfl)⟩) hT0 ?_
      change wpAnyG _ _ _ _ _ _ _ _ { tmps := #[.pointer (some ⟨hp, 0, none⟩), .int .i64 (a : Int), _, _, _, _, .slice (some ⟨x, 0, none⟩) 512 512, _, _, _, _, _, _, _, _, _, _, _, _, _, _, _, _, _, _, _, _, .pointer (some ⟨hp, 0, none⟩), .pointer (some ⟨hp, 0, none⟩), _, _, _, _, _, _, _, _, _, _, _, _, _, _, _, _, _, _, _, _, _, _, _, _, _, _, _, _, _, _, _, _, _, _, _, _, _, _, _, _, _, _, _, _, _, _, _, _], defers := [] } _
      refine wpAnyG_take (i := 2) (v := .pointer (some ⟨hp, 0, none⟩)) rfl (by kernel_rfl) (by kernel_rfl) (by kernel_rfl) (by kernel_rfl) (fun _ _ _ h => by cases h.1) (.inl ⟨by rfl, fun w' hT => exFd_hand (by rfl) (by rfl)⟩) hT0 ?_
      change wpAnyG _ _ _ _ _ _ _ _ { tmps := #[.pointer (some ⟨hp, 0, none⟩), .int .i64 (a : Int), _, _, _, _, .slice (some ⟨x, 0, none⟩) 512 512, _, _, _, _, _, _, _, _, _, _, _, _, _, _, _, _, _, _, _, _, .pointer (some ⟨hp, 0, none⟩), .pointer (some ⟨hp, 0, none⟩), .pointer (some ⟨hp, 0, none⟩), _, _, _, _, _, _, _, _, _, _, _, _, _, _, _, _, _, _, _, _, _, _, _, _, _, _, _, _, _, _, _, _, _, _, _, _, _, _, _, _, _, _, _, _, _, _, _], defers := [] } _
      refine wpAnyG_take (i := 3) (v := .pointer (some ⟨b, 0, none⟩)) rfl (by kernel_rfl) (by kernel_rfl) (by kernel_rfl) (by kernel_rfl) (fun _ _ _ h => by cases h.1) (.inl ⟨by rfl, fun w' hT => exLd_pb (by rfl) (by rfl) (hh w' hT)⟩) hT0 ?_
      change wpAnyG _ _ _ _ _ _ _ _ { tmps := #[.pointer (some ⟨hp, 0, none⟩), .int .i64 (a : Int), _, _, _, _, .slice (some ⟨x, 0, none⟩) 512 512, _, _, _, _, _, _, _, _, _, _, _, _, _, _, _, _, _, _, _, _, .pointer (some ⟨hp, 0, none⟩), .pointer (some ⟨hp, 0, none⟩), .pointer (some ⟨hp, 0, none⟩), .pointer (some ⟨b, 0, none⟩), _, _, _, _, _, _, _, _, _, _, _, _, _, _, _, _, _, _, _, _, _, _, _, _, _, _, _, _, _, _, _, _, _, _, _, _, _, _, _, _, _, _, _, _, _, _], defers := [] } _
      refine wpAnyG_take (i := 4) (v := .pointer (some ⟨b, 0, none⟩)) rfl (by kernel_rfl) (by kernel_rfl) (by kernel_rfl) (by kernel_rfl) (fun _ _ _ h => by cases h.1) (.inl ⟨by rfl, fun w' hT => exNil (by rfl) (by rfl)⟩) hT0 ?_
      change wpAnyG _ _ _ _ _ _ _ _ { tmps := #[.pointer (some ⟨hp, 0, none⟩), .int .i64 (a : Int), _, _, _, _, .slice (some ⟨x, 0, none⟩) 512 512, _, _, _, _, _, _, _, _, _, _, _, _, _, _, _, _, _, _, _, _, .pointer (some ⟨hp, 0, none⟩), .pointer (some ⟨hp, 0, none⟩), .pointer (some ⟨hp, 0, none⟩), .pointer (some ⟨b, 0, none⟩), .pointer (some ⟨b, 0, none⟩), _, _, _, _, _, _, _, _, _, _, _, _, _, _, _, _, _, _, _, _, _, _, _, _, _, _, _, _, _, _, _, _, _, _, _, _, _, _, _, _, _, _, _, _, _], defers := [] } _
      refine wpAnyG_take (i := 5) (v := .pointer (some ⟨b, 1, none⟩)) rfl (by kernel_rfl) (by kernel_rfl) (by kernel_rfl) (by kernel_rfl) (fun _ _ _ h => by cases h.1) (.inl ⟨by rfl, fun w' hT => exFd_bx1 (by rfl) (by rfl)⟩) hT0 ?_
      change wpAnyG _ _ _ _ _ _ _ _ { tmps := #[.pointer (some ⟨hp, 0, none⟩), .int .i64 (a : Int), _, _, _, _, .slice (some ⟨x, 0, none⟩) 512 512, _, _, _, _, _, _, _, _, _, _, _, _, _, _, _, _, _, _, _, _, .pointer (some ⟨hp, 0, none⟩), .pointer (some ⟨hp, 0, none⟩), .pointer (some ⟨hp, 0, none⟩), .pointer (some ⟨b, 0, none⟩), .pointer (some ⟨b, 0, none⟩), .pointer (some ⟨b, 1, none⟩), _, _, _, _, _, _, _, _, _, _, _, _, _, _, _, _, _, _, _, _, _, _, _, _, _, _, _, _, _, _, _, _, _, _, _, _, _, _, _, _, _, _, _, _], defers := [] } _
      refine wpAnyG_take (i := 6) (v := .map (some ms)) rfl (by kernel_rfl) (by kernel_rfl) (by kernel_rfl) (by kernel_rfl) (fun _ _ _ h => by cases h.1) (.inl ⟨by rfl, fun w' hT => exLd_map (by rfl) (by rfl) (hb1 w' hT)⟩) hT0 ?_
      change wpAnyG _ _ _ _ _ _ _ _ { tmps := #[.pointer (some ⟨hp, 0, none⟩), .int .i64 (a : Int), _, _, _, _, .slice (some ⟨x, 0, none⟩) 512 512, _, _, _, _, _, _, _, _, _, _, _, _, _, _, _, _, _, _, _, _, .pointer (some ⟨hp, 0, none⟩), .pointer (some ⟨hp, 0, none⟩), .pointer (some ⟨hp, 0, none⟩), .pointer (some ⟨b, 0, none⟩), .pointer (some ⟨b, 0, none⟩), .pointer (some ⟨b, 1, none⟩), .map (some ms), _, _, _, _, _, _, _, _, _, _, _, _, _, _, _, _, _, _, _, _, _, _, _, _, _, _, _, _, _, _, _, _, _, _, _, _, _, _, _, _, _, _, _], defers := [] } _
      refine wpAnyG_take (i := 7) (v := .int .i64 (a : Int)) rfl (by kernel_rfl) (by kernel_rfl) (by kernel_rfl) (by kernel_rfl) (fun _ _ _ h => by cases h.1) (.inl ⟨by rfl, fun w' hT => exMv (by rfl) (by rfl)⟩) hT0 ?_
      change wpAnyG _ _ _ _ _ _ _ _ { tmps := #[.pointer (some ⟨hp, 0, none⟩), .int .i64 (a : Int), _, _, _, _, .slice (some ⟨x, 0, none⟩) 512 512, _, _, _, _, _, _, _, _, _, _, _, _, _, _, _, _, _, _, _, _, .pointer (some ⟨hp, 0, none⟩), .pointer (some ⟨hp, 0, none⟩), .pointer (some ⟨hp, 0, none⟩), .pointer (some ⟨b, 0, none⟩), .pointer (some ⟨b, 0, none⟩), .pointer (some ⟨b, 1, none⟩), .map (some ms), .int .i64 (a : Int), _, _, _, _, _, _, _, _, _, _, _, _, _, _, _, _, _, _, _, _, _, _, _, _, _, _, _, _, _, _, _, _, _, _, _, _, _, _, _, _, _, _], defers := [] } _
      refine wpAnyG_take (i := 8) (v := .pointer (some ⟨hp, 0, none⟩)) rfl (by kernel_rfl) (by kernel_rfl) (by kernel_rfl) (by kernel_rfl) (fun _ _ _ h => by cases h.1) (.inl ⟨by rfl, fun w' hT => exMv (by rfl) (by rfl)⟩) hT0 ?_
      change wpAnyG _ _ _ _ _ _ _ _ { tmps := #[.pointer (some ⟨hp, 0, none⟩), .int .i64 (a : Int), _, _, _, _, .slice (some ⟨x, 0, none⟩) 512 512, _, _, _, _, _, _, _, _, _, _, _, _, _, _, _, _, _, _, _, _, .pointer (some ⟨hp, 0, none⟩), .pointer (some ⟨hp, 0, none⟩), .pointer (some ⟨hp, 0, none⟩), .pointer (some ⟨b, 0, none⟩), .pointer (some ⟨b, 0, none⟩), .pointer (some ⟨b, 1, none⟩), .map (some ms), .int .i64 (a : Int), .pointer (some ⟨hp, 0, none⟩), _, _, _, _, _, _, _, _, _, _, _, _, _, _, _, _, _, _, _, _, _, _, _, _, _, _, _, _, _, _, _, _, _, _, _, _, _, _, _, _, _], defers := [] } _
      refine wpAnyG_take (i := 9) (v := .pointer (some ⟨hp, 0, none⟩)) rfl (by kernel_rfl) (by kernel_rfl) (by kernel_rfl) (by kernel_rfl) (fun _ _ _ h => by cases h.1) (.inl ⟨by rfl, fun w' hT => exNil (by rfl) (by rfl)⟩) hT0 ?_
      change wpAnyG _ _ _ _ _ _ _ _ { tmps := #[.pointer (some ⟨hp, 0, none⟩), .int .i64 (a : Int), _, _, _, _, .slice (some ⟨x, 0, none⟩) 512 512, _, _, _, _, _, _, _, _, _, _, _, _, _, _, _, _, _, _, _, _, .pointer (some ⟨hp, 0, none⟩), .pointer (some ⟨hp, 0, none⟩), .pointer (some ⟨hp, 0, none⟩), .pointer (some ⟨b, 0, none⟩), .pointer (some ⟨b, 0, none⟩), .pointer (some ⟨b, 1, none⟩), .map (some ms), .int .i64 (a : Int), .pointer (some ⟨hp, 0, none⟩), .pointer (some ⟨hp, 0, none⟩), _, _, _, _, _, _, _, _, _, _, _, _, _, _, _, _, _, _, _, _, _, _, _, _, _, _, _, _, _, _, _, _, _, _, _, _, _, _, _, _], defers := [] } _
      refine wpAnyG_take (i := 10) (v := .pointer (some ⟨hp, 0, none⟩)) rfl (by kernel_rfl) (by kernel_rfl) (by kernel_rfl) (by kernel_rfl) (fun _ _ _ h => by cases h.1) (.inl ⟨by rfl, fun w' hT => exFd_hand (by rfl) (by rfl)⟩) hT0 ?_
      change wpAnyG _ _ _ _ _ _ _ _ { tmps := #[.pointer (some ⟨hp, 0, none⟩), .int .i64 (a : Int), _, _, _, _, .slice (some ⟨x, 0, none⟩) 512 512, _, _, _, _, _, _, _, _, _, _, _, _, _, _, _, _, _, _, _, _, .pointer (some ⟨hp, 0, none⟩), .pointer (some ⟨hp, 0, none⟩), .pointer (some ⟨hp, 0, none⟩), .pointer (some ⟨b, 0, none⟩), .pointer (some ⟨b, 0, none⟩), .pointer (some ⟨b, 1, none⟩), .map (some ms), .int .i64 (a : Int), .pointer (some ⟨hp, 0, none⟩), .pointer (some ⟨hp, 0, none⟩), .pointer (some ⟨hp, 0, none⟩), _, _, _, _, _, _, _, _, _, _, _, _, _, _, _, _, _, _, _, _, _, _, _, _, _, _, _, _, _, _, _, _, _, _, _, _, _, _, _], defers := [] } _
      refine wpAnyG_take (i := 11) (v := .pointer (some ⟨b, 0, none⟩)) rfl (by kernel_rfl) (by kernel_rfl) (by kernel_rfl) (by kernel_rfl) (fun _ _ _ h => by cases h.1) (.inl ⟨by rfl, fun w' hT => exLd_pb (by rfl) (by rfl) (hh w' hT)⟩) hT0 ?_
      change wpAnyG _ _ _ _ _ _ _ _ { tmps := #[.pointer (some ⟨hp, 0, none⟩), .int .i64 (a : Int), _, _, _, _, .slice (some ⟨x, 0, none⟩) 512 512, _, _, _, _, _, _, _, _, _, _, _, _, _, _, _, _, _, _, _, _, .pointer (some ⟨hp, 0, none⟩), .pointer (some ⟨hp, 0, none⟩), .pointer (some ⟨hp, 0, none⟩), .pointer (some ⟨b, 0, none⟩), .pointer (some ⟨b, 0, none⟩), .pointer (some ⟨b, 1, none⟩), .map (some ms), .int .i64 (a : Int), .pointer (some ⟨hp, 0, none⟩), .pointer (some ⟨hp, 0, none⟩), .pointer (some ⟨hp, 0, none⟩), .pointer (some ⟨b, 0, none⟩), _, _, _, _, _, _, _, _, _, _, _, _, _, _, _, _, _, _, _, _, _, _, _, _, _, _, _, _, _, _, _, _, _, _, _, _, _, _], defers := [] } _
      refine wpAnyG_take (i := 12) (v := .pointer (some ⟨b, 0, none⟩)) rfl (by kernel_rfl) (by kernel_rfl) (by kernel_rfl) (by kernel_rfl) (fun _ _ _ h => by cases h.1) (.inl ⟨by rfl, fun w' hT => exNil (by rfl) (by rfl)⟩) hT0 ?_
      change wpAnyG _ _ _ _ _ _ _ _ { tmps := #[.pointer (some ⟨hp, 0, none⟩), .int .i64 (a : Int), _, _, _, _, .slice (some ⟨x, 0, none⟩) 512 512, _, _, _, _, _, _, _, _, _, _, _, _, _, _, _, _, _, _, _, _, .pointer (some ⟨hp, 0, none⟩), .pointer (some ⟨hp, 0, none⟩), .pointer (some ⟨hp, 0, none⟩), .pointer (some ⟨b, 0, none⟩), .pointer (some ⟨b, 0, none⟩), .pointer (some ⟨b, 1, none⟩), .map (some ms), .int .i64 (a : Int), .pointer (some ⟨hp, 0, none⟩), .pointer (some ⟨hp, 0, none⟩), .pointer (some ⟨hp, 0, none⟩), .pointer (some ⟨b, 0, none⟩), .pointer (some ⟨b, 0, none⟩), _, _, _, _, _, _, _, _, _, _, _, _, _, _, _, _, _, _, _, _, _, _, _, _, _, _, _, _, _, _, _, _, _, _, _, _, _], defers := [] } _
      refine wpAnyG_take (i := 13) (v := .pointer (some ⟨b, 2, none⟩)) rfl (by kernel_rfl) (by kernel_rfl) (by kernel_rfl) (by kernel_rfl) (fun _ _ _ h => by cases h.1) (.inl ⟨by rfl, fun w' hT => exFd_bx2 (by rfl) (by rfl)⟩) hT0 ?_
      change wpAnyG _ _ _ _ _ _ _ _ { tmps := #[.pointer (some ⟨hp, 0, none⟩), .int .i64 (a : Int), _, _, _, _, .slice (some ⟨x, 0, none⟩) 512 512, _, _, _, _, _, _, _, _, _, _, _, _, _, _, _, _, _, _, _, _, .pointer (some ⟨hp, 0, none⟩), .pointer (some ⟨hp, 0, none⟩), .pointer (some ⟨hp, 0, none⟩), .pointer (some ⟨b, 0, none⟩), .pointer (some ⟨b, 0, none⟩), .pointer (some ⟨b, 1, none⟩), .map (some ms), .int .i64 (a : Int), .pointer (some ⟨hp, 0, none⟩), .pointer (some ⟨hp, 0, none⟩), .pointer (some ⟨hp, 0, none⟩), .pointer (some ⟨b, 0, none⟩), .pointer (some ⟨b, 0, none⟩), .pointer (some ⟨b, 2, none⟩), _, _, _, _, _, _, _, _, _, _, _, _, _, _, _, _, _, _, _, _, _, _, _, _, _, _, _, _, _, _, _, _, _, _, _, _], defers := [] } _
      refine wpAnyG_take (i := 14) (v := .map (some mn)) rfl (by kernel_rfl) (by kernel_rfl) (by kernel_rfl) (by kernel_rfl) (fun _ _ _ h => by cases h.1) (.inl ⟨by rfl, fun w' hT => exLd_map (by rfl) (by rfl) (hb2 w' hT)⟩) hT0 ?_
      change wpAnyG _ _ _ _ _ _ _ _ { tmps := #[.pointer (some ⟨hp, 0, none⟩), .int .i64 (a : Int), _, _, _, _, .slice (some ⟨x, 0, none⟩) 512 512, _, _, _, _, _, _, _, _, _, _, _, _, _, _, _, _, _, _, _, _, .pointer (some ⟨hp, 0, none⟩), .pointer (some ⟨hp, 0, none⟩), .pointer (some ⟨hp, 0, none⟩), .pointer (some ⟨b, 0, none⟩), .pointer (some ⟨b, 0, none⟩), .pointer (some ⟨b, 1, none⟩), .map (some ms), .int .i64 (a : Int), .pointer (some ⟨hp, 0, none⟩), .pointer (some ⟨hp, 0, none⟩), .pointer (some ⟨hp, 0, none⟩), .pointer (some ⟨b, 0, none⟩), .pointer (some ⟨b, 0, none⟩), .pointer (some ⟨b, 2, none⟩), .map (some mn), _, _, _, _, _, _, _, _, _, _, _, _, _, _, _, _, _, _, _, _, _, _, _, _, _, _, _, _, _, _, _, _, _, _, _], defers := [] } _
      refine wpAnyG_take (i := 15) (v := .int .i64 (a : Int)) rfl (by kernel_rfl) (by kernel_rfl) (by kernel_rfl) (by kernel_rfl) (fun _ _ _ h => by cases h.1) (.inl ⟨by rfl, fun w' hT => exMv (by rfl) (by rfl)⟩) hT0 ?_
      change wpAnyG _ _ _ _ _ _ _ _ { tmps := #[.pointer (some ⟨hp, 0, none⟩), .int .i64 (a : Int), _, _, _, _, .slice (some ⟨x, 0, none⟩) 512 512, _, _, _, _, _, _, _, _, _, _, _, _, _, _, _, _, _, _, _, _, .pointer (some ⟨hp, 0, none⟩), .pointer (some ⟨hp, 0, none⟩), .pointer (some ⟨hp, 0, none⟩), .pointer (some ⟨b, 0, none⟩), .pointer (some ⟨b, 0, none⟩), .pointer (some ⟨b, 1, none⟩), .map (some ms), .int .i64 (a : Int), .pointer (some ⟨hp, 0, none⟩), .pointer (some ⟨hp, 0, none⟩), .pointer (some ⟨hp, 0, none⟩), .pointer (some ⟨b, 0, none⟩), .pointer (some ⟨b, 0, none⟩), .pointer (some ⟨b, 2, none⟩), .map (some mn), .int .i64 (a : Int), _, _, _, _, _, _, _, _, _, _, _, _, _, _, _, _, _, _, _, _, _, _, _, _, _, _, _, _, _, _, _, _, _, _], defers := [] } _
      refine wpAnyG_take (i := 16) (v := .slice (some ⟨x, 0, none⟩) 512 512) rfl (by kernel_rfl) (by kernel_rfl) (by kernel_rfl) (by kernel_rfl) (fun _ _ _ h => by cases h.1) (.inl ⟨by rfl, fun w' hT => exMv (by rfl) (by rfl)⟩) hT0 ?_
      change wpAnyG _ _ _ _ _ _ _ _ { tmps := #[.pointer (some ⟨hp, 0, none⟩), .int .i64 (a : Int), _, _, _, _, .slice (some ⟨x, 0, none⟩) 512 512, _, _, _, _, _, _, _, _, _, _, _, _, _, _, _, _, _, _, _, _, .pointer (some ⟨hp, 0, none⟩), .pointer (some ⟨hp, 0, none⟩), .pointer (some ⟨hp, 0, none⟩), .pointer (some ⟨b, 0, none⟩), .pointer (some ⟨b, 0, none⟩), .pointer (some ⟨b, 1, none⟩), .map (some ms), .int .i64 (a : Int), .pointer (some ⟨hp, 0, none⟩), .pointer (some ⟨hp, 0, none⟩), .pointer (some ⟨hp, 0, none⟩), .pointer (some ⟨b, 0, none⟩), .pointer (some ⟨b, 0, none⟩), .pointer (some ⟨b, 2, none⟩), .map (some mn), .int .i64 (a : Int), .slice (some ⟨x, 0, none⟩) 512 512, _, _, _, _, _, _, _, _, _, _, _, _, _, _, _, _, _, _, _, _, _, _, _, _, _, _, _, _, _, _, _, _, _], defers := [] } _
      refine wpAnyG_take (i := 17) (v := .slice (some ⟨x, 0, none⟩) 512 512) rfl (by kernel_rfl) (by kernel_rfl) (by kernel_rfl) (by kernel_rfl) (fun _ _ _ h => by cases h.1) (.inl ⟨by rfl, fun w' hT => exMv (by rfl) (by rfl)⟩) hT0 ?_
      change wpAnyG _ _ _ _ _ _ _ _ { tmps := #[.pointer (some ⟨hp, 0, none⟩), .int .i64 (a : Int), _, _, _, _, .slice (some ⟨x, 0, none⟩) 512 512, _, _, _, _, _, _, _, _, _, _, _, _, _, _, _, _, _, _, _, _, .pointer (some ⟨hp, 0, none⟩), .pointer (some ⟨hp, 0, none⟩), .pointer (some ⟨hp, 0, none⟩), .pointer (some ⟨b, 0, none⟩), .pointer (some ⟨b, 0, none⟩), .pointer (some ⟨b, 1, none⟩), .map (some ms), .int .i64 (a : Int), .pointer (some ⟨hp, 0, none⟩), .pointer (some ⟨hp, 0, none⟩), .pointer (some ⟨hp, 0, none⟩), .pointer (some ⟨b, 0, none⟩), .pointer (some ⟨b, 0, none⟩), .pointer (some ⟨b, 2, none⟩), .map (some mn), .int .i64 (a : Int), .slice (some ⟨x, 0, none⟩) 512 512, .slice (some ⟨x, 0, none⟩) 512 512, _, _, _, _, _, _, _, _, _, _, _, _, _, _, _, _, _, _, _, _, _, _, _, _, _, _, _, _, _, _, _, _], defers := [] } _
      refine wpAnyG_ready (rs := [18]) (by kernel_rfl) (by simp) (AllReadyG.value (i := 18) (v := .tuple #[v0, goInt st]) rfl (by kernel_rfl) (exEnt (by rfl) (by rfl) (by rfl) hr1) (fun _ => hT1) ?_ AllReadyG.nil)
      change wpAnyG _ _ _ _ _ _ _ _ { tmps := #[.pointer (some ⟨hp, 0, none⟩), .int .i64 (a : Int), _, _, _, _, .slice (some ⟨x, 0, none⟩) 512 512, _, _, _, _, _, _, _, _, _, _, _, _, _, _, _, _, _, _, _, _, .pointer (some ⟨hp, 0, none⟩), .pointer (some ⟨hp, 0, none⟩), .pointer (some ⟨hp, 0, none⟩), .pointer (some ⟨b, 0, none⟩), .pointer (some ⟨b, 0, none⟩), .pointer (some ⟨b, 1, none⟩), .map (some ms), .int .i64 (a : Int), .pointer (some ⟨hp, 0, none⟩), .pointer (some ⟨hp, 0, none⟩), .pointer (some ⟨hp, 0, none⟩), .pointer (some ⟨b, 0, none⟩), .pointer (some ⟨b, 0, none⟩), .pointer (some ⟨b, 2, none⟩), .map (some mn), .int .i64 (a : Int), .slice (some ⟨x, 0, none⟩) 512 512, .slice (some ⟨x, 0, none⟩) 512 512, .tuple #[v0, goInt st], _, _, _, _, _, _, _, _, _, _, _, _, _, _, _, _, _, _, _, _, _, _, _, _, _, _, _, _, _, _, _], defers := [] } _
      refine wpAnyG_ready (rs := [19]) (by kernel_rfl) (by simp) (AllReadyG.value (i := 19) (v := goInt st) rfl (by kernel_rfl) (exEx1 (by rfl) (by rfl)) (fun _ => hT1) ?_ AllReadyG.nil)
      change wpAnyG _ _ _ _ _ _ _ _ { tmps := #[.pointer (some ⟨hp, 0, none⟩), .int .i64 (a : Int), _, _, _, _, .slice (some ⟨x, 0, none⟩) 512 512, _, _, _, _, _, _, _, _, _, _, _, _, _, _, _, _, _, _, _, _, .pointer (some ⟨hp, 0, none⟩), .pointer (some ⟨hp, 0, none⟩), .pointer (some ⟨hp, 0, none⟩), .pointer (some ⟨b, 0, none⟩), .pointer (some ⟨b, 0, none⟩), .pointer (some ⟨b, 1, none⟩), .map (some ms), .int .i64 (a : Int), .pointer (some ⟨hp, 0, none⟩), .pointer (some ⟨hp, 0, none⟩), .pointer (some ⟨hp, 0, none⟩), .pointer (some ⟨b, 0, none⟩), .pointer (some ⟨b, 0, none⟩), .pointer (some ⟨b, 2, none⟩), .map (some mn), .int .i64 (a : Int), .slice (some ⟨x, 0, none⟩) 512 512, .slice (some ⟨x, 0, none⟩) 512 512, .tuple #[v0, goInt st], goInt st, _, _, _, _, _, _, _, _, _, _, _, _, _, _, _, _, _, _, _, _, _, _, _, _, _, _, _, _, _, _], defers := [] } _
      refine wpAnyG_ready (rs := [20]) (by kernel_rfl) (by simp) (AllReadyG.skip (i := 20) rfl (by kernel_rfl) (exEst (by rfl) (by rfl) (by rfl) (by rfl) hr2) (fun _ => hT2) ?_ AllReadyG.nil)
      change wpAnyG _ _ _ _ _ _ _ _ { tmps := #[.pointer (some ⟨hp, 0, none⟩), .int .i64 (a : Int), _, _, _, _, .slice (some ⟨x, 0, none⟩) 512 512, _, _, _, _, _, _, _, _, _, _, _, _, _, _, _, _, _, _, _, _, .pointer (some ⟨hp, 0, none⟩), .pointer (some ⟨hp, 0, none⟩), .pointer (some ⟨hp, 0, none⟩), .pointer (some ⟨b, 0, none⟩), .pointer (some ⟨b, 0, none⟩), .pointer (some ⟨b, 1, none⟩), .map (some ms), .int .i64 (a : Int), .pointer (some ⟨hp, 0, none⟩), .pointer (some ⟨hp, 0, none⟩), .pointer (some ⟨hp, 0, none⟩), .pointer (some ⟨b, 0, none⟩), .pointer (some ⟨b, 0, none⟩), .pointer (some ⟨b, 2, none⟩), .map (some mn), .int .i64 (a : Int), .slice (some ⟨x, 0, none⟩) 512 512, .slice (some ⟨x, 0, none⟩) 512 512, .tuple #[v0, goInt st], goInt st, _, _, _, _, _, _, _, _, _, _, _, _, _, _, _, _, _, _, _, _, _, _, _, _, _, _, _, _, _, _], defers := [] } _
      refine wpAnyG_ready (rs := [21]) (by kernel_rfl) (by simp) (AllReadyG.value (i := 21) (v := .tuple #[v0', goInt st']) rfl (by kernel_rfl) (exEnt (by rfl) (by rfl) (by rfl) hr3) (fun _ => hT3) ?_ AllReadyG.nil)
      change wpAnyG _ _ _ _ _ _ _ _ { tmps := #[.pointer (some ⟨hp, 0, none⟩), .int .i64 (a : Int), _, _, _, _, .slice (some ⟨x, 0, none⟩) 512 512, _, _, _, _, _, _, _, _, _, _, _, _, _, _, _, _, _, _, _, _, .pointer (some ⟨hp, 0, none⟩), .pointer (some ⟨hp, 0, none⟩), .pointer (some ⟨hp, 0, none⟩), .pointer (some ⟨b, 0, none⟩), .pointer (some ⟨b, 0, none⟩), .pointer (some ⟨b, 1, none⟩), .map (some ms), .int .i64 (a : Int), .pointer (some ⟨hp, 0, none⟩), .pointer (some ⟨hp, 0, none⟩), .pointer (some ⟨hp, 0, none⟩), .pointer (some ⟨b, 0, none⟩), .pointer (some ⟨b, 0, none⟩), .pointer (some ⟨b, 2, none⟩), .map (some mn), .int .i64 (a : Int), .slice (some ⟨x, 0, none⟩) 512 512, .slice (some ⟨x, 0, none⟩) 512 512, .tuple #[v0, goInt st], goInt st, .tuple #[v0', goInt st'], _, _, _, _, _, _, _, _, _, _, _, _, _, _, _, _, _, _, _, _, _, _, _, _, _, _, _, _, _], defers := [] } _
      refine wpAnyG_ready (rs := [22]) (by kernel_rfl) (by simp) (AllReadyG.value (i := 22) (v := goInt st') rfl (by kernel_rfl) (exEx1 (by rfl) (by rfl)) (fun _ => hT3) ?_ AllReadyG.nil)
      change wpAnyG _ _ _ _ _ _ _ _ { tmps := #[.pointer (some ⟨hp, 0, none⟩), .int .i64 (a : Int), _, _, _, _, .slice (some ⟨x, 0, none⟩) 512 512, _, _, _, _, _, _, _, _, _, _, _, _, _, _, _, _, _, _, _, _, .pointer (some ⟨hp, 0, none⟩), .pointer (some ⟨hp, 0, none⟩), .pointer (some ⟨hp, 0, none⟩), .pointer (some ⟨b, 0, none⟩), .pointer (some ⟨b, 0, none⟩), .pointer (some ⟨b, 1, none⟩), .map (some ms), .int .i64 (a : Int), .pointer (some ⟨hp, 0, none⟩), .pointer (some ⟨hp, 0, none⟩), .pointer (some ⟨hp, 0, none⟩), .pointer (some ⟨b, 0, none⟩), .pointer (some ⟨b, 0, none⟩), .pointer (some ⟨b, 2, none⟩), .map (some mn), .int .i64 (a : Int), .slice (some ⟨x, 0, none⟩) 512 512, .slice (some ⟨x, 0, none⟩) 512 512, .tuple #[v0, goInt st], goInt st, .tuple #[v0', goInt st'], goInt st', _, _, _, _, _, _, _, _, _, _, _, _, _, _, _, _, _, _, _, _, _, _, _, _, _, _, _, _], defers := [] } _
      refine wpAnyG_ready (rs := [23]) (by kernel_rfl) (by simp) (AllReadyG.skip (i := 23) rfl (by kernel_rfl) (exEst (by rfl) (by rfl) (by rfl) (by rfl) hr4) (fun h => absurd rfl h) ?_ AllReadyG.nil)
      refine wpAnyG_done (by kernel_rfl) ⟨rfl, ?_⟩ _
      clear hT0 hT1 hT2 hT3 hr1 hr2 hr3 hr4 hh hb1 hb2
      simp only [Exit.then]
      go_wp2
      go_loopw [7, 9, 57] (fun lv _ iv wr => lv = .slice none 0 0 ∧ iv = .int .i64 0 ∧ wr = w6) (fun _ _ _ _ => 0)
      case atStart => exact ⟨rfl, rfl, rfl⟩
      case round =>
        obtain ⟨rfl, rfl, rfl⟩ := hrel
        go_wp2
        go_end0
        exact ⟨rfl, unhide HE⟩

end Go.Proofs.YtjkghgcdkfkekaaGreatDoor

