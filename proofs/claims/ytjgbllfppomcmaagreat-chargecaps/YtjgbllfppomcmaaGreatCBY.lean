import Derived.Test.YtjgbllfppomcmaaGreatCBX
import Derived.Test.YtjgbllfppomcmaaGreatCP7
/- A week's bill: the program's billOf; bills as rows. -/
namespace Go.Proofs.YtjgbllfppomcmaaGreat
open Go.RowKit

def blL (b : Int × Int) : List Value := [.int .i64 b.1, .int .i64 b.2]
def blC (b : Int × Int) : Array Value := #[.int .i64 b.1, .int .i64 b.2]
def blV (l : List (Int × Int)) : List Value := l.flatMap blL
theorem blV_length (l : List (Int × Int)) : (blV l).length = l.length * 2 := flat_length blL 2 (fun _ => rfl) l
theorem blL_one (b : Int × Int) : ∀ u ∈ blL b, u.oneCell' = true := fun u hu => by simp only [blL, List.mem_cons, List.not_mem_nil, or_false] at hu; rcases hu with rfl | rfl <;> rfl
theorem blV_one (l : List (Int × Int)) : ∀ u ∈ blV l, u.oneCell' = true := flat_one _ (fun x u hu => blL_one x u hu) l
theorem blV_snoc (l : List (Int × Int)) (b : Int × Int) : blV (l ++ [b]) = blV l ++ blL b := by simp [blV]
theorem blInfo : (Tryz.prog.info? 43).map (fun i => (i.zero.map (·.cells), i.size, i.bytes)) = some (some (blL (0, 0)).toArray, 2, 16) := by kernel_rfl

theorem bxS2 {w : World} {D : Nat} (h : Bx w D #[.int .i64 0, .int .i64 0] 43) (a0 a1 : Value) : Bx ((w.setCell ⟨D, 0, none⟩ a0).setCell ⟨D, 1, none⟩ a1) D #[a0, a1] 43 := (h.setCell 0 a0).setCell 1 a1
theorem bx2c {w : World} {D : Nat} (h : Bx w D #[.int .i64 0, .int .i64 0] 43) : (w.cell? ⟨D, 0, none⟩ = some (.int .i64 0) ∧ w.cell? ⟨D, 1, none⟩ = some (.int .i64 0)) ∧ (∀ k, w.frozen? ⟨D, k, none⟩ = false) := ⟨⟨h.cell 0, h.cell 1⟩, fun k => h.frozen k⟩

set_option maxHeartbeats 4000000 in
set_option maxRecDepth 20000 in
theorem billOf_any (w : World) (A : Ad) (t : Tf) (h : TAt w A t) (ao : Option Addr) (cap : Nat) (l : List Dy) (hl : CAt w ao (dyV l)) (h0 : 0 < l.length) (hwk : wkE t l = 0 ∧ wkR t l = wkV t l) :
    Calls Tryz.prog 30 #[tv A t, .slice ao l.length cap] w fun e w' => e = .returned (.agg #[.int .i64 (weekV (l[0]'h0).day), .int .i64 (wkV t l)]) ∧ Fr (fun _ => False) w w' := by
  obtain ⟨b0, off0, hao, c0, c1, c2, c3, c4, c5, c6⟩ := hl.dy7 h0
  simp only [Nat.zero_mul, Nat.add_zero] at c0
  generalize (l[0]'h0).day = y0 at *
  have RW := hide (fun (u : World) => week_any u y0)
  generalize weekV y0 = wn at *
  have RC : Hid (∀ u, Fr (fun _ => False) w u → Calls Tryz.prog 69 #[tv A t, .slice ao l.length cap] u fun e u' => e = .returned (.tuple #[.int .i64 (wkV t l), .int .i64 0]) ∧ Fr (fun _ => False) u u') := hide (fun u hu => by
    have := capsWeek_any u A t (h.keep hu) ao cap l (hl.keep hu)
    rw [hwk.1, hwk.2] at this
    exact this)
  generalize wkV t l = am at *
  have HC5 := hide (fun (u : World) (hf : Fr (fun _ => False) w u) => (hf.cell (World.block_lt_of_cell? _ _ c0) (fun t => t)).trans c0)
  obtain ⟨n0, hn0⟩ : ∃ n0, l.length = n0 := ⟨_, rfl⟩
  rw [hn0] at RC h0 ⊢
  have HN0 := hide h0
  obtain ⟨v, hv⟩ : ∃ v, v = (w.alloc (.cells (tc A t) 27)).alloc (.cells #[.int .i64 0, .int .i64 0] 43) := ⟨_, rfl⟩
  have HF : Hid (Fr (fun _ => False) w v) := hide (by rw [hv]; exact ((Fr.refl _ w).alloc _).alloc _)
  have HTB : Hid (TB v w.heap.size A t) := hide (by rw [hv]; exact (TB.new w A t).keep ((Fr.refl _ _).alloc _))
  have HBD : Hid (Bx v (w.heap.size + 1) #[.int .i64 0, .int .i64 0] 43) := hide (by
    rw [hv, ← heap_alloc w (.cells (tc A t) 27)]; exact Bx.new _ _ _)
  obtain ⟨B, hB⟩ : ∃ B, B = w.heap.size := ⟨_, rfl⟩
  have HBL : Hid (w.heap.size ≤ B + 1) := hide (by omega)
  rw [← hB] at HTB HBD
  have HB := hide hB
  have HV := hide hv
  subst hao
  clear hv hB h hwk c0 c1 c2 c3 c4 c5 c6 hl hn0 h0
  unfold tv at RC ⊢
  unfold tc at RC HV ⊢
  have hb0 := World.block_lt_of_cell? _ _ (unhide HC5 w (Fr.refl _ _))
  have c5 := unhide HC5 v (unhide HF)
  have HCB : Hid (∀ u, Fr (fun q => q = B + 1) v u → u.cell? ⟨B, 0, none⟩ = some (.slice A.aS t.st.length A.cS) ∧ u.cell? ⟨B, 1, none⟩ = some (.slice A.aP t.sp.length A.cP) ∧ u.cell? ⟨B, 2, none⟩ = some (.slice A.aB t.bd.length A.cB) ∧ u.cell? ⟨B, 3, none⟩ = some (.float .f64 t.off) ∧ u.cell? ⟨B, 4, none⟩ = some (.int .i64 t.bus) ∧ u.cell? ⟨B, 5, none⟩ = some (.int .i64 t.busDaily) ∧ u.cell? ⟨B, 6, none⟩ = some (.int .i64 t.busWeekly) ∧ u.cell? ⟨B, 7, none⟩ = some (.int .i64 t.hopper) ∧ u.cell? ⟨B, 8, none⟩ = some (.int .i64 t.most) ∧ u.cell? ⟨B, 9, none⟩ = some (.int .i64 t.longest) ∧ u.cell? ⟨B, 10, none⟩ = some (.int .i64 t.change) ∧ u.cell? ⟨B, 11, none⟩ = some (.int .i64 t.passback) ∧ u.cell? ⟨B, 12, none⟩ = some (.int .i64 t.delay) ∧ u.cell? ⟨B, 13, none⟩ = some (.int .i64 t.threshold) ∧ u.cell? ⟨b0, off0, none⟩ = some (.int .i64 y0)) := hide (fun u hf => by
    have h1 := (unhide HTB).frame hf (by omega)
    have h2 := unhide HBL
    exact ⟨h1.cell 0, h1.cell 1, h1.cell 2, h1.cell 3, h1.cell 4, h1.cell 5, h1.cell 6, h1.cell 7, h1.cell 8, h1.cell 9, h1.cell 10, h1.cell 11, h1.cell 12, h1.cell 13, (hf.cell (World.block_lt_of_cell? _ _ c5) (fun q => by simp only at q hb0; have := unhide HB; omega)).trans c5⟩)
  clear hb0 c5
  obtain ⟨d0, d1, d2, d3, d4, d5, d6, d7, d8, d9, d10, d11, d12, d13, d14⟩ := unhide HCB v (Fr.refl _ _)
  have hpos : (0 : Int) < (n0 : Int) := by have := unhide HN0; omega
  have hpos2 : 0 < n0 := unhide HN0
  have HACC := hide (Fr.refl (fun _ => False) v)
  go_enter Tryz.func30, Tryz.ntmps30
  go_upto_region 1 with (fail)
  rw [← unhide HV, ← unhide HB]
  clear HV
  go_region_held3 (fun u => u.cell? ⟨B, 0, none⟩ = some (.slice A.aS t.st.length A.cS) ∧ u.cell? ⟨B, 1, none⟩ = some (.slice A.aP t.sp.length A.cP) ∧ u.cell? ⟨B, 2, none⟩ = some (.slice A.aB t.bd.length A.cB) ∧ u.cell? ⟨B, 3, none⟩ = some (.float .f64 t.off) ∧ u.cell? ⟨B, 4, none⟩ = some (.int .i64 t.bus) ∧ u.cell? ⟨B, 5, none⟩ = some (.int .i64 t.busDaily) ∧ u.cell? ⟨B, 6, none⟩ = some (.int .i64 t.busWeekly) ∧ u.cell? ⟨B, 7, none⟩ = some (.int .i64 t.hopper) ∧ u.cell? ⟨B, 8, none⟩ = some (.int .i64 t.most) ∧ u.cell? ⟨B, 9, none⟩ = some (.int .i64 t.longest) ∧ u.cell? ⟨B, 10, none⟩ = some (.int .i64 t.change) ∧ u.cell? ⟨B, 11, none⟩ = some (.int .i64 t.passback) ∧ u.cell? ⟨B, 12, none⟩ = some (.int .i64 t.delay) ∧ u.cell? ⟨B, 13, none⟩ = some (.int .i64 t.threshold) ∧ u.cell? ⟨b0, off0, none⟩ = some (.int .i64 y0))
    ((refine unhide HCB _ ?_; repeat (first | (with_reducible refine Fr.setB ?_ _ _) | (with_reducible exact (unhide HACC).mono (fun _ _ t => t.elim)) | (with_reducible exact Fr.refl _ _) | (with_reducible refine Fr.drew ?_))))
    (first
      | (go_at_call 19; refine (unhide RW _).mono ?_; rintro e wa ⟨rfl, rfl⟩)
      | (go_at_call 66; refine (mustI_ok _ _).mono ?_; rintro e wb ⟨rfl, rfl⟩)
      | (go_at_call 69; refine (unhide RC _ ((unhide HF).trans (by repeat (first | (with_reducible exact unhide HACC) | (with_reducible exact Fr.refl _ _) | (with_reducible refine Fr.drew ?_))) (fun _ _ t => t))).mono ?_; rintro e wc ⟨rfl, hA⟩; have HACC := hide (Fr.trans (by repeat (first | (with_reducible exact unhide HACC) | (with_reducible exact Fr.refl _ _) | (with_reducible refine Fr.drew ?_)) : Fr (fun _ => False) v _) hA (fun _ _ t => t)); clear hA; have hx := (unhide HBD).keep (unhide HACC); have HX := hide hx; obtain ⟨⟨x0, x1⟩, yy⟩ := bx2c hx; clear hx))
  all_goals
    go_wp2
    have hb := bxS2 (unhide HX) (.int .i64 wn) (.int .i64 am)
    have hF2 : Fr (fun _ => False) w _ := (Fr.put8 (Fr.put8 (Fr.trans (unhide HF) (unhide HACC) (fun _ _ t => t)) (unhide HBL) 0 (.int .i64 wn)) (unhide HBL) 1 (.int .i64 am))
    generalize ((wb.setCell ⟨B + 1, 0, none⟩ (.int .i64 wn)).setCell ⟨B + 1, 1, none⟩ (.int .i64 am)) = z at *
    have z0 : z.cell? ⟨B + 1, 0, none⟩ = some (.int .i64 wn) := hb.cell 0
    have z1 : z.cell? ⟨B + 1, 1, none⟩ = some (.int .i64 am) := hb.cell 1
    refine bodyPost_ret (v := .agg #[.int .i64 wn, .int .i64 am]) (by simp [results, z0, z1, Tryz.results30, go_sem]) rfl ⟨rfl, hF2⟩

end Go.Proofs.YtjgbllfppomcmaaGreat

/- The closure of Bills that catches what a look gave up with. -/
namespace Go.Proofs.YtjgbllfppomcmaaGreat
open Go.RowKit

theorem catchB (p q : Nat) (hpq : ¬ p = q) (x v : Int) (vs : Value) (older : List PanicEntry) (w : World) (hc : w.cell? ⟨p, 0, none⟩ = some vs) (hz : w.frozen? ⟨p, 0, none⟩ = false) (hd : w.cell? ⟨q, 0, none⟩ = some (.int .i64 v)) (hy : w.frozen? ⟨q, 0, none⟩ = false) :
    CallsD Tryz.prog 22 #[.pointer (some ⟨p, 0, none⟩), .pointer (some ⟨q, 0, none⟩)] (.panicking ({ v := .iface 34 (.int .i64 x), recovered := false } :: older)) w fun e u' w' =>
      e = .returned (.tuple #[]) ∧ u' = .panicking ({ v := .iface 34 (.int .i64 x), recovered := true } :: older) ∧ w' = (w.setCell ⟨p, 0, none⟩ (.slice none 0 0)).setCell ⟨q, 0, none⟩ (.int .i64 x) := by
  refine callsD_of_wpS Tryz.func22 rfl fun c₀ cs hu => ?_
  apply wpS_seq
  apply wpS_region
  simp [wpOpsS, go_sem, recoverD, hu, Tryz.ntmps22, Exit.thenS, assert_errnoT]
  refine wpS_of_wp ?_
  rw [show (#[Value.pointer (some ⟨p, 0, none⟩), Value.pointer (some ⟨q, 0, none⟩)] ++ (((((((Array.replicate 9 undef).setIfInBounds 3 (.iface 34 (.int .i64 x))).setIfInBounds 4 (.tuple #[.int .i64 x, .bool true])).setIfInBounds 2 (.tuple #[.int .i64 x, .bool true])).setIfInBounds 5 (.int .i64 x)).setIfInBounds 6 (.bool true)).setIfInBounds 0 (.int .i64 x)).setIfInBounds 1 (.bool true)) =
    #[.pointer (some ⟨p, 0, none⟩), .pointer (some ⟨q, 0, none⟩), .int .i64 x, .bool true, .tuple #[.int .i64 x, .bool true], .iface 34 (.int .i64 x), .tuple #[.int .i64 x, .bool true], .int .i64 x, .bool true, undef, undef] by kernel_rfl]
  go_wp2
  exact ⟨rfl, _, rfl, .tuple #[], by simp [results, Tryz.results22], rfl, rfl, rfl⟩

theorem idleB (p q : Nat) (w : World) :
    CallsD Tryz.prog 22 #[.pointer (some ⟨p, 0, none⟩), .pointer (some ⟨q, 0, none⟩)] .returning w fun e u' w' => e = .returned (.tuple #[]) ∧ u' = .returning ∧ w' = w := by
  refine callsD_of_wpS Tryz.func22 rfl fun c₀ cs hu => ?_
  apply wpS_seq
  apply wpS_region
  simp [wpOpsS, go_sem, recoverD, hu, Tryz.ntmps22, Exit.thenS, assert_nilT]
  refine wpS_of_wp ?_
  rw [show (#[Value.pointer (some ⟨p, 0, none⟩), Value.pointer (some ⟨q, 0, none⟩)] ++ (((((((Array.replicate 9 undef).setIfInBounds 3 .nilIface).setIfInBounds 4 (.tuple #[.int .i64 0, .bool false])).setIfInBounds 2 (.tuple #[.int .i64 0, .bool false])).setIfInBounds 5 (.int .i64 0)).setIfInBounds 6 (.bool false)).setIfInBounds 0 (.int .i64 0)).setIfInBounds 1 (.bool false)) =
    #[.pointer (some ⟨p, 0, none⟩), .pointer (some ⟨q, 0, none⟩), .int .i64 0, .bool false, .tuple #[.int .i64 0, .bool false], .nilIface, .tuple #[.int .i64 0, .bool false], .int .i64 0, .bool false, undef, undef] by kernel_rfl]
  go_wp2
  cases c₀
  simp_all [bodyPostS, results, Tryz.results22]

/-- What Bills leaves. -/
def OwedP (t : Tf) (l : List Ou) (m : List Tp) (w : World) (e : Ending) (w' : World) : Prop :=
  ∃ ao cap g, e = .returned (.tuple #[.slice ao (owedL t l m).length cap, .int .i64 (owedE t l m)]) ∧ KRow w' ao cap g 2 (blV (owedL t l m)) ∧ (0 < cap → w.heap.size ≤ g) ∧ Fr (fun _ => False) w w'

theorem OwedP.fail {t : Tf} {l : List Ou} {m : List Tp} {w w' : World} {x : Int} (hf : Fr (fun _ => False) w w') (hx : owedE t l m = x) (h0 : x ≠ 0) : OwedP t l m w (.returned (.tuple #[.slice none 0 0, .int .i64 x])) w' := by
  have e : owedL t l m = [] := by unfold owedL; rw [if_neg (by rw [hx]; exact h0)]
  exact ⟨none, 0, 0, by rw [e, hx]; rfl, by rw [e]; exact KRow.nil _ _ _, fun h => absurd h (by omega), hf⟩

/-- The frame of Bills between two steps: the tariff's box, the bills' cell, the error's. -/
structure BW (w : World) (B : Nat) (A : Ad) (t : Tf) (u : World) (ab : Option Addr) (cb gb : Nat) (bs : List (Int × Int)) : Prop where
  fr : Fr (fun _ => False) w u
  sz : w.heap.size = B
  box : TB u B A t
  res : Bx u (B + 1) #[.slice ab bs.length cb] 33
  err : Bx u (B + 2) #[.int .i64 0] 34
  row : KRow u ab cb gb 2 (blV bs)
  new : 0 < cb → B + 2 < gb

theorem BW.start (w : World) (A : Ad) (t : Tf) : BW w w.heap.size A t (((w.alloc (.cells (tc A t) 27)).alloc (.cells #[.slice none 0 0] 33)).alloc (.cells #[.int .i64 0] 34)) none 0 0 [] := by
  refine ⟨(((Fr.refl _ w).alloc _).alloc _).alloc _, rfl, ((TB.new w A t).keep ((Fr.refl _ _).alloc _)).keep ((Fr.refl _ _).alloc _), ?_, ?_, KRow.nil _ _ _, fun h => absurd h (by omega)⟩
  · rw [← heap_alloc w (.cells (tc A t) 27)]
    exact (Bx.new _ _ _).keep ((Fr.refl _ _).alloc _)
  · have e : w.heap.size + 2 = ((w.alloc (.cells (tc A t) 27)).alloc (.cells #[.slice none 0 0] 33)).heap.size := by rw [heap_alloc, heap_alloc]
    rw [e]
    exact Bx.new _ _ _

theorem BW.keep {w : World} {B : Nat} {A : Ad} {t : Tf} {u u' : World} {ab : Option Addr} {cb gb : Nat} {bs : List (Int × Int)} (h : BW w B A t u ab cb gb bs) (hf : Fr (fun _ => False) u u') : BW w B A t u' ab cb gb bs :=
  ⟨h.fr.trans hf (fun _ _ t => t), h.sz, h.box.keep hf, h.res.keep hf, h.err.keep hf, h.row.keep (by omega) hf, h.new⟩

/-- The bills' cell written anew, with one bill more. -/
theorem BW.add {w : World} {B : Nat} {A : Ad} {t : Tf} {u u2 u3 : World} {ab : Option Addr} {cb gb : Nat} {bs : List (Int × Int)} (h : BW w B A t u ab cb gb bs) (hf : Fr (fun _ => False) u u2) (b : Int × Int) {ab' : Option Addr} {cb' gb' : Nat}
    (hr : KRow u3 ab' cb' gb' 2 (blV bs ++ blL b)) (hg : Grew u2 gb cb u3 gb' cb') : BW w B A t (u3.setCell ⟨B + 1, 0, none⟩ (.slice ab' (bs.length + 1) cb')) ab' cb' gb' (bs ++ [b]) := by
  have k := h.keep hf
  have hg2 : Fr (fun q => q = gb ∧ 0 < cb) u2 u3 := by
    rcases hg with ⟨_, _, f⟩ | ⟨_, _, f⟩
    · exact f
    · exact f.mono (fun _ _ t => t.elim)
  have hl := k.err.lt
  have hnew : 0 < cb' → B + 2 < gb' := fun hc => by
    rcases hg with ⟨e, e2, _⟩ | ⟨e, _, _⟩
    · rw [e]; exact k.new (by omega)
    · omega
  have hsz := k.sz
  have hfr3 : Fr (fun _ => False) w u3 := k.fr.trans hg2 (fun q hq e => by have := k.new e.2; have := e.1; omega)
  have hset : Fr (fun q => q = B + 1) u3 (u3.setCell ⟨B + 1, 0, none⟩ (.slice ab' (bs.length + 1) cb')) := (Fr.refl (fun q => q = B + 1) _).setCell (p := ⟨B + 1, 0, none⟩) (fun _ => rfl) _
  refine ⟨hfr3.trans hset (fun q hq e => by omega), k.sz, ?_, ?_, ?_, ?_, hnew⟩
  · exact (k.box.frame hg2 (fun e => by have := k.new e.2; have := e.1; omega)).frame hset (by omega)
  · have := (k.res.frame hg2 (fun e => by have := k.new e.2; have := e.1; omega)).setCell 0 (.slice ab' (bs.length + 1) cb')
    rw [List.length_append]
    exact this
  · exact (k.err.frame hg2 (fun e => by have := k.new e.2; have := e.1; omega)).frame hset (by omega)
  · rw [blV_snoc]
    exact hr.stay (fun hc => hset.block _ (hr.lt (by omega) hc) (by have := hnew hc; omega))

end Go.Proofs.YtjgbllfppomcmaaGreat

