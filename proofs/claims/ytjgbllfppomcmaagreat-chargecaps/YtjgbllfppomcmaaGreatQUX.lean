import Derived.Test.YtjgbllfppomcmaaGreatQST
import Derived.Test.YtjgbllfppomcmaaGreatQY
import Derived.Test.YtjgbllfppomcmaaGreatQSX
import Derived.Laws.Rows
import Derived.Laws.Tables
import Derived.Test.YtjgbllfppomcmaaGreatQU2
/- A fare from a zone to another one: Single. -/
namespace Go.Proofs.YtjgbllfppomcmaaGreat
open Go.RowKit

/-- The fare, and the error. -/
def singleR (t : Tf) (a b : Int) (pk : Bool) : Int × Int :=
  match spanOf t a b with
  | none => (0, 1)
  | some s => if price s.single then (if pk then (s.single, 0) else (rv (scaled s.single t.off), scaleE s.single t.off)) else (0, 50)

theorem single_any (w : World) (A : Ad) (t : Tf) (h : TAt w A t) (a b : Int) (pk : Bool) :
    Calls Tryz.prog 162 #[tv A t, .int .i64 a, .int .i64 b, .bool pk] w fun e w' => e = .returned (.tuple #[.int .i64 (singleR t a b pk).1, .int .i64 (singleR t a b pk).2]) ∧ Fr (fun _ => False) w w' := by
  have HR := hide (fun (w' : World) (hf : Fr (fun _ => False) w w') => span_any w' A t (h.keep hf) a b)
  have HX : Hid (singleR t a b pk = match spanOf t a b with | none => (0, 1) | some s => if price s.single then (if pk then (s.single, 0) else (rv (scaled s.single t.off), scaleE s.single t.off)) else (0, 50)) := rfl
  have hoff := h.off
  generalize singleR t a b pk = z at *
  generalize spanOf t a b = r at *
  clear h
  obtain ⟨W, hW⟩ : ∃ W, W = w.alloc (.cells (tc A t) 27) := ⟨_, rfl⟩
  have hF0 : Fr (fun _ => False) w W := by rw [hW]; exact (Fr.refl _ w).alloc _
  have hlt : w.heap.size < W.heap.size := by rw [hW, heap_alloc]; exact Nat.lt_succ_self _
  have c3 : W.cell? ⟨w.heap.size, 3, none⟩ = some (.float .f64 t.off) := by rw [hW, World.cell?_alloc_new]; rfl
  have RS := unhide HR W hF0
  have HF0 := hide (And.intro hF0 hlt)
  clear HR hF0 hlt
  unfold tc at hW
  unfold tv tc at *
  cases r with
  | none =>
    have HZ : Hid (z = (0, 1)) := hide (unhide HX)
    clear HX
    go_enter Tryz.func162, Tryz.ntmps162
    go_wp2_with fail
    rw [← hW]
    refine RS.mono ?_
    rintro e w1 ⟨rfl, hF⟩
    have HF := hide ((unhide HF0).1.trans hF (fun _ _ t => t))
    clear hF RS HF0 c3 hW
    go_wp2
    go_ret2
    exact ⟨by rw [unhide HZ]; rfl, (unhide HF).alloc _⟩
  | some s =>
    obtain ⟨s0, s1, s2, s3, s4⟩ := s
    have HX2 : Hid (z = if price s2 = true then (if pk = true then (s2, 0) else (rv (scaled s2 t.off), scaleE s2 t.off)) else (0, 50)) := unhide HX
    clear HX
    have RP := fun w => isPrice_any w s2
    have RC := fun w => scale_any w s2 t.off hoff
    have hpr := price_cases s2
    generalize price s2 = p at *
    cases p with
    | false =>
      have HZ : Hid (z = (0, 50)) := hide (by have := unhide HX2; simpa using this)
      clear HX2
      go_enter Tryz.func162, Tryz.ntmps162
      go_wp2_with fail
      rw [← hW]
      refine RS.mono ?_
      rintro e w1 ⟨rfl, hF⟩
      have HF := hide ((unhide HF0).1.trans hF (fun _ _ t => t))
      clear hF RS HF0 c3 hW
      go_wp2_with fail
      refine (RP _).mono ?_
      rintro e w2 ⟨rfl, rfl⟩
      go_wp2
      go_ret2
      exact ⟨by rw [unhide HZ]; rfl, (unhide HF).alloc _⟩
    | true =>
      cases pk with
      | true =>
        have HZ : Hid (z = (s2, 0)) := hide (by have := unhide HX2; simpa using this)
        clear HX2
        go_enter Tryz.func162, Tryz.ntmps162
        go_wp2_with fail
        rw [← hW]
        refine RS.mono ?_
        rintro e w1 ⟨rfl, hF⟩
        have HF := hide ((unhide HF0).1.trans hF (fun _ _ t => t))
        clear hF RS HF0 c3 hW
        go_wp2_with fail
        refine (RP _).mono ?_
        rintro e w2 ⟨rfl, rfl⟩
        go_wp2
        go_ret2
        exact ⟨by rw [unhide HZ]; rfl, (unhide HF).alloc _⟩
      | false =>
        have HZ : Hid (z = (rv (scaled s2 t.off), scaleE s2 t.off)) := hide (by have := unhide HX2; simpa using this)
        clear HX2
        generalize rv (scaled s2 t.off) = v1 at *
        generalize scaleE s2 t.off = v2 at *
        go_enter Tryz.func162, Tryz.ntmps162
        go_wp2_with fail
        rw [← hW]
        refine RS.mono ?_
        rintro e w1 ⟨rfl, hF⟩
        have HF := hide ((unhide HF0).1.trans hF (fun _ _ t => t))
        have c3' := (hF.cell (a := ⟨w.heap.size, 3, none⟩) (unhide HF0).2 (fun t => t)).trans c3
        have hlt2 := World.block_lt_of_cell? _ _ c3'
        simp only at hlt2
        clear hF RS HF0 c3 hW
        go_wp2_with fail
        refine (RP _).mono ?_
        rintro e w2 ⟨rfl, rfl⟩
        go_wp2_with fail
        refine (RC _).mono ?_
        rintro e w2 ⟨rfl, rfl⟩
        go_wp2
        go_ret2
        exact ⟨by rw [unhide HZ]; rfl, (unhide HF).alloc _⟩

end Go.Proofs.YtjgbllfppomcmaaGreat

/- A tariff's box: loaded and stored as a whole. -/
namespace Go.Proofs.YtjgbllfppomcmaaGreat
open Go.RowKit

/-- The box of a tariff. -/
def TB (w : World) (g : Nat) (A : Ad) (t : Tf) : Prop := w.heap[g]? = some (.cells (tc A t) 27 (0, 0))

theorem TB.new (w : World) (A : Ad) (t : Tf) : TB (w.alloc (.cells (tc A t) 27)) w.heap.size A t := by
  unfold TB
  exact heap_new w _

theorem TB.lt {w : World} {g : Nat} {A : Ad} {t : Tf} (h : TB w g A t) : g < w.heap.size := (Array.getElem?_eq_some_iff.1 h).1

theorem TB.frame {S : Nat → Prop} {w w' : World} {g : Nat} {A : Ad} {t : Tf} (h : TB w g A t) (hf : Fr S w w') (hS : ¬ S g) : TB w' g A t := (hf.block g h.lt hS).trans h
theorem TB.keep {w w' : World} {g : Nat} {A : Ad} {t : Tf} (h : TB w g A t) (hf : Fr (fun _ => False) w w') : TB w' g A t := h.frame hf (fun t => t)

theorem TB.cell {w : World} {g : Nat} {A : Ad} {t : Tf} (h : TB w g A t) (k : Nat) : w.cell? ⟨g, k, none⟩ = (tc A t)[k]? := by
  have h' : w.heap[g]? = some (.cells (tc A t) 27 (0, 0)) := h
  simp [World.cell?, h']

theorem TB.frozen {w : World} {g : Nat} {A : Ad} {t : Tf} (h : TB w g A t) (k : Nat) : w.frozen? ⟨g, k, none⟩ = false := by
  have h' : w.heap[g]? = some (.cells (tc A t) 27 (0, 0)) := h
  simp [World.frozen?, h']

theorem tb_size (A : Ad) (t : Tf) : (Tryz.prog.info? 27).map (·.size) = some (tc A t).size := by
  have h : (Tryz.prog.info? 27).map (·.size) = some 14 := by kernel_rfl
  exact h

theorem tb_one (A : Ad) (t : Tf) : (tc A t).all (·.oneCell') = true := by simp [tc, Value.oneCell']

/-- A tariff loaded out of its box. -/
theorem wpList_load_tariff {ops : Array Oper} {rest : List Oper} {o : Oper} {a : Act} {w : World} {Q : Exit → Act → World → Prop} (hgd : o.guard = none) (x : Operand) (ho : o.op = .load 27 x)
    {g : Nat} {A : Ad} {t : Tf} (hx : a.eval x = .pointer (some ⟨g, 0, none⟩)) (hg : TB w g A t) (h : wpList Tryz.prog ops Q rest (a.put o.dst (tv A t)) w) : wpList Tryz.prog ops Q (o :: rest) a w :=
  wpList_load_row hgd 27 x ho g hx 27 (tc A t) (0, 0) _ hg Tryz.underlying27 rfl (tb_size A t) h

/-- A tariff stored into a box. -/
theorem wpList_store_tariff {ops : Array Oper} {rest : List Oper} {o : Oper} {a : Act} {w : World} {Q : Exit → Act → World → Prop} (hgd : o.guard = none) (x y : Operand) (ho : o.op = .store 27 x y)
    {g : Nat} {A : Ad} {t : Tf} (hx : a.eval x = .pointer (some ⟨g, 0, none⟩)) (hy : a.eval y = tv A t) (old : Array Value) (hg : w.heap[g]? = some (.cells old 27 (0, 0))) (hold : old.size = 14)
    (h : wpList Tryz.prog ops Q rest (a.put o.dst undef) (w.setRow g (tc A t))) : wpList Tryz.prog ops Q (o :: rest) a w :=
  wpList_store_row hgd 27 x y ho g (tc A t) hx hy 27 old hg (tb_size A t) hold (tb_one A t) h

theorem TB.set {w : World} {g : Nat} {old : Array Value} (hg : w.heap[g]? = some (.cells old 27 (0, 0))) (A : Ad) (t : Tf) : TB (w.setRow g (tc A t)) g A t := setRow_heap _ _ _ _ _ _ hg

theorem results_tariff {fn : Func} {p : Tmp} (h : fn.results = #[.cell p 27]) (tmps : Array Value) (w : World) {g : Nat} {A : Ad} {t : Tf} (hp : tmps.getD p undef = .pointer (some ⟨g, 0, none⟩)) (hg : TB w g A t) :
    (results fn tmps).run Tryz.prog w = .ok (tv A t) w := results_cell_row h tmps w g 27 (tc A t) (0, 0) _ hp hg Tryz.underlying27 rfl (tb_size A t)

end Go.Proofs.YtjgbllfppomcmaaGreat

/- The document's examples: Plain, awake. -/
namespace Go.Proofs.YtjgbllfppomcmaaGreat
open Go.RowKit

def plainT : Tf := { st := [⟨1, 1, 0⟩, ⟨2, 2, 7⟩], sp := [⟨1, 1, 200, 500, 2000⟩, ⟨1, 2, 300, 700, 2800⟩, ⟨2, 2, 150, 500, 2000⟩], bd := [], off := 4602678819172646912, bus := 0, busDaily := 0, busWeekly := 0, hopper := 0, most := 0, longest := 120, change := 0, passback := 0, delay := 0, threshold := 0 }

theorem plain_right : rightE plainT = 0 := by decide +kernel
theorem plain_right0 : rightE { plainT with longest := 0 } = 70 := by decide +kernel
theorem plain_station : stationOf plainT 2 = some ⟨2, 2, 7⟩ := by rfl
theorem plain_single : singleR plainT 2 1 false = (150, 0) := by decide +kernel

theorem cat_new (w : World) (vs : List Value) (e : TypeId) : CAt (w.alloc (.cells vs.toArray e)) (some ⟨w.heap.size, 0, none⟩) vs := fun _ =>
  ⟨_, _, rfl, fun j hj => by rw [World.cell?_alloc_new, Nat.zero_add, List.getElem?_toArray, List.getElem?_eq_getElem hj]⟩

def plainA (N : Nat) : Ad := ⟨some ⟨N + 1, 0, none⟩, 2, some ⟨N + 1 + 1, 0, none⟩, 3, none, 0⟩

theorem plain_any (w : World) : Calls Tryz.prog 21 #[] w fun e w' => ∃ A, e = .returned (tv A plainT) ∧ TAt w' A plainT ∧ Fr (fun _ => False) w w' := by
  go_enter Tryz.func21, Tryz.ntmps21
  have hg : (((w.alloc (.cells #[.slice none 0 0, .slice none 0 0, .slice none 0 0, .float .f64 0, .int .i64 0, .int .i64 0, .int .i64 0, .int .i64 0, .int .i64 0, .int .i64 0, .int .i64 0, .int .i64 0, .int .i64 0, .int .i64 0] 27)).alloc (.cells (stV plainT.st).toArray 59)).alloc (.cells (spV plainT.sp).toArray 50)).heap[w.heap.size]? = some (.cells #[.slice none 0 0, .slice none 0 0, .slice none 0 0, .float .f64 0, .int .i64 0, .int .i64 0, .int .i64 0, .int .i64 0, .int .i64 0, .int .i64 0, .int .i64 0, .int .i64 0, .int .i64 0, .int .i64 0] 27 (0, 0)) := by
    rw [Below.heap_alloc _ _ _ (by simp; omega), Below.heap_alloc _ _ _ (by simp)]
    exact heap_new w _
  have HG := hide hg
  clear hg
  go_wp2_with (refine wpList_store_tariff rfl (.tmp 0) (.tmp 8) rfl (g := w.heap.size) (A := plainA w.heap.size) (t := plainT) rfl rfl _ (unhide HG) rfl ?_)
  refine bodyPost_ret (results_tariff rfl _ _ (g := w.heap.size) (A := plainA w.heap.size) (t := plainT) rfl (TB.set (unhide HG) _ _)) rfl ⟨_, rfl, ?_, ?_⟩
  · have h1 := cat_new (w.alloc (.cells #[.slice none 0 0, .slice none 0 0, .slice none 0 0, .float .f64 0, .int .i64 0, .int .i64 0, .int .i64 0, .int .i64 0, .int .i64 0, .int .i64 0, .int .i64 0, .int .i64 0, .int .i64 0, .int .i64 0] 27)) (stV plainT.st) 59
    have h2 := cat_new ((w.alloc (.cells #[.slice none 0 0, .slice none 0 0, .slice none 0 0, .float .f64 0, .int .i64 0, .int .i64 0, .int .i64 0, .int .i64 0, .int .i64 0, .int .i64 0, .int .i64 0, .int .i64 0, .int .i64 0, .int .i64 0] 27)).alloc (.cells (stV plainT.st).toArray 59)) (spV plainT.sp) 50
    rw [heap_alloc] at h1
    rw [heap_alloc, heap_alloc] at h2
    have f3 := (Fr.refl (fun k => k = w.heap.size) (((w.alloc (.cells #[.slice none 0 0, .slice none 0 0, .slice none 0 0, .float .f64 0, .int .i64 0, .int .i64 0, .int .i64 0, .int .i64 0, .int .i64 0, .int .i64 0, .int .i64 0, .int .i64 0, .int .i64 0, .int .i64 0] 27)).alloc (.cells (stV plainT.st).toArray 59)).alloc (.cells (spV plainT.sp).toArray 50))).setRow (g := w.heap.size) (fun _ => rfl) (tc (plainA w.heap.size) plainT)
    refine ⟨(h1.keep ((Fr.refl _ _).alloc _)).frame f3 (fun b off e _ t => ?_), h2.frame f3 (fun b off e _ t => ?_), CAt.nil _ _, by decide, by decide, by decide, by decide⟩
    · injection e with e
      injection e with e1 _
      omega
    · injection e with e
      injection e with e1 _
      omega
  · exact ((((Fr.refl _ w).alloc _).alloc _).alloc _).setRow (fun h => absurd h (Nat.lt_irrefl _)) _

theorem TB.setCell {w : World} {g : Nat} {A A' : Ad} {t t' : Tf} (h : TB w g A t) (k : Nat) (v : Value) (e : (tc A t).setIfInBounds k v = tc A' t') : TB (w.setCell ⟨g, k, none⟩ v) g A' t' := by
  have h' : w.heap[g]? = some (.cells (tc A t) 27 (0, 0)) := h
  rw [setCell_eq_setRow w g k _ _ _ v h', e]
  exact setRow_heap _ _ _ _ _ _ h'

end Go.Proofs.YtjgbllfppomcmaaGreat

