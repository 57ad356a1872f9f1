/- Contracts of take, at each of its four types, and of the closure that it defers. -/
import Derived.Test.YtkjoojamkbpfcaaGreatA3
namespace Go.Proofs.YtkjoojamkbpfcaaGreat
open Go.RowKit

theorem assert_errno (x : Int) (w : World) : (Instr.typeAssert (.iface 31 (.int .i64 x)) 20 31 true).run Tryz.prog w = .ok (.tuple #[.int .i64 x, .bool true]) w := by kernel_rfl
theorem assert_nil (w : World) : (Instr.typeAssert .nilIface 20 31 true).run Tryz.prog w = .ok (.tuple #[.int .i64 0, .bool false]) w := by kernel_rfl

/-- How a call that takes a piece comes out, where there was no fault. -/
def Done (p g : Nat) (bs : List UInt8) (a l : Nat) (f : Int) (w : World) (z : Value) (o : Except Int (Value × Nat)) (e : Ending) (w' : World) : Prop :=
  match o with
  | .ok (v, a') => e = .returned v ∧ RAt w' p g bs a' a 0 f ∧ Fr (· = p) w w'
  | .error x => e = .returned z ∧ RAt w' p g bs a l x a ∧ Fr (· = p) w w'

theorem failed_no (p : Nat) (w : World) (h3 : w.cell? ⟨p, 3, none⟩ = some (.int .i64 0)) :
    Calls Tryz.prog 100 #[.pointer (some ⟨p, 0, none⟩)] w fun e w' => e = .returned (.bool false) ∧ w = w' := failed_any p 0 w h3

theorem makes : ∀ (fn : Fn) (first cap : Array Value) (w : World), (Instr.makeFunc fn first cap).run Tryz.prog w = .ok (.func fn first cap) w := fun _ _ _ _ => rfl

theorem catch96 (p st rb : Nat) (a : Nat) (x : Int) (older : List PanicEntry) (w : World) (hs : w.cell? ⟨st, 0, none⟩ = some (.int .i64 a)) (hr : w.cell? ⟨rb, 0, none⟩ = some (.pointer (some ⟨p, 0, none⟩)))
    (c1 : ∃ v, w.cell? ⟨p, 1, none⟩ = some v) (c3 : ∃ v, w.cell? ⟨p, 3, none⟩ = some v) (c4 : ∃ v, w.cell? ⟨p, 4, none⟩ = some v) (f1 : w.frozen? ⟨p, 1, none⟩ = false) (f3 : w.frozen? ⟨p, 3, none⟩ = false) (f4 : w.frozen? ⟨p, 4, none⟩ = false) (_hsp : st ≠ p) (_hrp : rb ≠ p) :
    CallsD Tryz.prog 126 #[.pointer (some ⟨st, 0, none⟩), .pointer (some ⟨rb, 0, none⟩)] (.panicking ({ v := .iface 31 (.int .i64 x), recovered := false } :: older)) w fun e u' w' =>
      e = .returned (.tuple #[]) ∧ u' = .panicking ({ v := .iface 31 (.int .i64 x), recovered := true } :: older) ∧ w' = ((w.setCell ⟨p, 1, none⟩ (.int .i64 a)).setCell ⟨p, 3, none⟩ (.int .i64 x)).setCell ⟨p, 4, none⟩ (.int .i64 a) := by
  obtain ⟨v1, c1⟩ := c1
  obtain ⟨v3, c3⟩ := c3
  obtain ⟨v4, c4⟩ := c4
  refine callsD_of_wpS Tryz.func126 rfl fun c₀ cs hu => ?_
  apply wpS_seq
  apply wpS_region
  simp [wpOpsS, go_sem, recoverD, hu, Tryz.ntmps126, Exit.thenS, assert_errno]
  apply wpS_seq
  apply wpS_region
  simp [wpOpsS, go_sem, Exit.thenS]
  refine wpS_cond (t := true) (by simp [Act.eval, Array.replicate]) ?_
  simp only [if_true]
  refine wpS_of_wp ?_
  go_wp2
  exact ⟨rfl, _, rfl, .tuple #[], by simp [results, Tryz.results126], rfl, rfl, rfl⟩

theorem idle96 (st rb : Nat) (w : World) :
    CallsD Tryz.prog 126 #[.pointer (some ⟨st, 0, none⟩), .pointer (some ⟨rb, 0, none⟩)] .returning w fun e u' w' => e = .returned (.tuple #[]) ∧ u' = .returning ∧ w = w' := by
  refine callsD_of_wpS Tryz.func126 rfl fun c₀ cs hu => ?_
  apply wpS_seq
  apply wpS_region
  simp [wpOpsS, go_sem, recoverD, hu, Tryz.ntmps126, Exit.thenS, assert_nil]
  apply wpS_seq
  apply wpS_region
  simp [wpOpsS, go_sem, Exit.thenS]
  refine wpS_cond (t := false) (by simp [Act.eval, Array.replicate]) ?_
  simp only [Bool.false_eq_true, if_false]
  refine wpS_of_wp (wp_skip ?_)
  cases c₀
  simp_all [bodyPostS, results, Tryz.results126]

section
variable {w : World} {p g : Nat} {bs : List UInt8} {a l : Nat} {c f : Int}

theorem take61_failed (h : RAt w p g bs a l c f) (hc : c ≠ 0) (fv : Value) :
    Calls Tryz.prog 110 #[.pointer (some ⟨p, 0, none⟩), fv] w fun e w' => e = .returned (.int .i64 0) ∧ RAt w' p g bs a l c f ∧ Fr (fun _ => False) w w' := by
  have H := hide h
  have hlt := h.lt
  have hcn : (c != 0) = true := by simp [hc]
  clear h hc
  go_enter_defers Tryz.func110, Tryz.ntmps110
  go_wp2_with fail
  refine (failed_any p c _ ((unhide H).alloc _).c3).mono ?_
  rintro e w1 ⟨rfl, rfl⟩
  go_wp2
  exact ⟨_, results_tmp rfl _ _ _, rfl, (unhide H).alloc _, (Fr.refl _ _).alloc _⟩

end

section
variable {w : World} {p g : Nat} {bs : List UInt8} {a l : Nat} {f : Int}

theorem take62_any (h : RAt w p g bs a l 0 f) (caps : Array Value) (o : Except Int (Value × Nat))
    (hpiece : ∀ w1, Fr (fun _ => False) w w1 → RAt w1 p g bs a l 0 f → Calls Tryz.prog 119 caps w1 (Took p g bs l 0 f w1 o)) :
    Calls Tryz.prog 110 #[.pointer (some ⟨p, 0, none⟩), .func (Fn.func 119) #[] caps] w (Done p g bs a l f w (.int .i64 0) o) := by
  have H := hide h
  have HP := hide hpiece
  have hlt := h.lt
  have hmf := makes
  have hat := h.c1
  clear h hpiece
  go_enter_defers Tryz.func110, Tryz.ntmps110
  go_wp2_with fail
  refine (failed_no p _ ((unhide H).alloc _).c3).mono ?_
  rintro e w1 ⟨rfl, rfl⟩
  go_wp2_with fail
  have hn0 : w.heap.size ≠ p := by omega
  have hn1 : w.heap.size + 1 ≠ p := by omega
  have hF0 : Fr (fun _ => False) w ((w.alloc (.cells #[.pointer (some ⟨p, 0, none⟩)] 57)).alloc (.cells #[.int .i64 a] 3)) := ((Fr.refl _ _).alloc _).alloc _
  have hR0 := ((unhide H).alloc (.cells #[.pointer (some ⟨p, 0, none⟩)] 57)).alloc (.cells #[.int .i64 a] 3)
  have hb0 : ((w.alloc (.cells #[.pointer (some ⟨p, 0, none⟩)] 57)).alloc (.cells #[.int .i64 a] 3)).cell? ⟨w.heap.size, 0, none⟩ = some (.pointer (some ⟨p, 0, none⟩)) := by simp [go_sem]
  have hb1 : ((w.alloc (.cells #[.pointer (some ⟨p, 0, none⟩)] 57)).alloc (.cells #[.int .i64 a] 3)).cell? ⟨w.heap.size + 1, 0, none⟩ = some (.int .i64 a) := by simp [go_sem]
  refine (unhide HP _ hF0 hR0).mono ?_
  cases o with
  | ok va =>
    obtain ⟨v, a'⟩ := va
    rintro e w2 ⟨rfl, hR, hF⟩
    have k0 := (hF.cell (a := ⟨w.heap.size, 0, none⟩) (by simp; omega) hn0).trans hb0
    have k1 := (hF.cell (a := ⟨w.heap.size + 1, 0, none⟩) (by simp) hn1).trans hb1
    have k2 := hR.c2
    have fz2 := hR.fz 2 (by omega)
    have H2 := hide (And.intro hR ((hF0.mono (T := (· = p)) (fun _ _ t => t.elim)).trans hF (fun _ _ t => t)))
    clear hR hF hR0 hF0 hb0 hb1 HP H hat
    go_wp2
    refine leaves_cons (f := 126) (args := #[.pointer (some ⟨w.heap.size + 1, 0, none⟩), .pointer (some ⟨w.heap.size, 0, none⟩)]) (by simp) (by simp [go_sem]) ?_
    refine (idle96 _ _ _).mono ?_
    rintro e u' w'' ⟨rfl, rfl, rfl⟩
    exact ⟨_, results_tmp rfl _ _ _, rfl, (unhide H2).1.setLast a, (unhide H2).2.setCell (p := ⟨p, 2, none⟩) (fun _ => rfl) _⟩
  | error x =>
    rintro e w2 ⟨rfl, ⟨a', hR⟩, hF⟩
    have k0 := (hF.cell (a := ⟨w.heap.size, 0, none⟩) (by simp; omega) hn0).trans hb0
    have k1 := (hF.cell (a := ⟨w.heap.size + 1, 0, none⟩) (by simp) hn1).trans hb1
    have hF2 : Fr (· = p) w w2 := (hF0.mono (T := (· = p)) (fun _ _ t => t.elim)).trans hF (fun _ _ t => t)
    refine leaves_cons (f := 126) (args := #[.pointer (some ⟨w.heap.size + 1, 0, none⟩), .pointer (some ⟨w.heap.size, 0, none⟩)]) (by simp) (by simp [go_sem]) ?_
    refine (catch96 p (w.heap.size + 1) w.heap.size a x [] w2 k1 k0 ⟨_, hR.c1⟩ ⟨_, hR.c3⟩ ⟨_, hR.c4⟩ (hR.fz 1 (by omega)) (hR.fz 3 (by omega)) (hR.fz 4 (by omega)) hn1 hn0).mono ?_
    rintro e u' w'' ⟨rfl, rfl, rfl⟩
    exact ⟨_, results_tmp rfl _ _ _, rfl, ((hR.setAt a (unhide H).le).setCode x).setPlace a, ((hF2.setCell (p := ⟨p, 1, none⟩) (fun _ => rfl) _).setCell (p := ⟨p, 3, none⟩) (fun _ => rfl) _).setCell (p := ⟨p, 4, none⟩) (fun _ => rfl) _⟩

end

section
variable {w : World} {p g : Nat} {bs : List UInt8} {a l : Nat} {f : Int}

end

section
variable {w : World} {p g : Nat} {bs : List UInt8} {a l : Nat} {f : Int}

theorem take77_any (h : RAt w p g bs a l 0 f) (caps : Array Value) (o : Except Int (Value × Nat))
    (hpiece : ∀ w1, Fr (fun _ => False) w w1 → RAt w1 p g bs a l 0 f → Calls Tryz.prog 111 caps w1 (Took p g bs l 0 f w1 o)) :
    Calls Tryz.prog 110 #[.pointer (some ⟨p, 0, none⟩), .func (Fn.func 111) #[] caps] w (Done p g bs a l f w (.int .i64 0) o) := by
  have H := hide h
  have HP := hide hpiece
  have hlt := h.lt
  have hmf := makes
  have hat := h.c1
  clear h hpiece
  go_enter_defers Tryz.func110, Tryz.ntmps110
  go_wp2_with fail
  refine (failed_no p _ ((unhide H).alloc _).c3).mono ?_
  rintro e w1 ⟨rfl, rfl⟩
  go_wp2_with fail
  have hn0 : w.heap.size ≠ p := by omega
  have hn1 : w.heap.size + 1 ≠ p := by omega
  have hF0 : Fr (fun _ => False) w ((w.alloc (.cells #[.pointer (some ⟨p, 0, none⟩)] 57)).alloc (.cells #[.int .i64 a] 3)) := ((Fr.refl _ _).alloc _).alloc _
  have hR0 := ((unhide H).alloc (.cells #[.pointer (some ⟨p, 0, none⟩)] 57)).alloc (.cells #[.int .i64 a] 3)
  have hb0 : ((w.alloc (.cells #[.pointer (some ⟨p, 0, none⟩)] 57)).alloc (.cells #[.int .i64 a] 3)).cell? ⟨w.heap.size, 0, none⟩ = some (.pointer (some ⟨p, 0, none⟩)) := by simp [go_sem]
  have hb1 : ((w.alloc (.cells #[.pointer (some ⟨p, 0, none⟩)] 57)).alloc (.cells #[.int .i64 a] 3)).cell? ⟨w.heap.size + 1, 0, none⟩ = some (.int .i64 a) := by simp [go_sem]
  refine (unhide HP _ hF0 hR0).mono ?_
  cases o with
  | ok va =>
    obtain ⟨v, a'⟩ := va
    rintro e w2 ⟨rfl, hR, hF⟩
    have k0 := (hF.cell (a := ⟨w.heap.size, 0, none⟩) (by simp; omega) hn0).trans hb0
    have k1 := (hF.cell (a := ⟨w.heap.size + 1, 0, none⟩) (by simp) hn1).trans hb1
    have k2 := hR.c2
    have fz2 := hR.fz 2 (by omega)
    have H2 := hide (And.intro hR ((hF0.mono (T := (· = p)) (fun _ _ t => t.elim)).trans hF (fun _ _ t => t)))
    clear hR hF hR0 hF0 hb0 hb1 HP H hat
    go_wp2
    refine leaves_cons (f := 126) (args := #[.pointer (some ⟨w.heap.size + 1, 0, none⟩), .pointer (some ⟨w.heap.size, 0, none⟩)]) (by simp) (by simp [go_sem]) ?_
    refine (idle96 _ _ _).mono ?_
    rintro e u' w'' ⟨rfl, rfl, rfl⟩
    exact ⟨_, results_tmp rfl _ _ _, rfl, (unhide H2).1.setLast a, (unhide H2).2.setCell (p := ⟨p, 2, none⟩) (fun _ => rfl) _⟩
  | error x =>
    rintro e w2 ⟨rfl, ⟨a', hR⟩, hF⟩
    have k0 := (hF.cell (a := ⟨w.heap.size, 0, none⟩) (by simp; omega) hn0).trans hb0
    have k1 := (hF.cell (a := ⟨w.heap.size + 1, 0, none⟩) (by simp) hn1).trans hb1
    have hF2 : Fr (· = p) w w2 := (hF0.mono (T := (· = p)) (fun _ _ t => t.elim)).trans hF (fun _ _ t => t)
    refine leaves_cons (f := 126) (args := #[.pointer (some ⟨w.heap.size + 1, 0, none⟩), .pointer (some ⟨w.heap.size, 0, none⟩)]) (by simp) (by simp [go_sem]) ?_
    refine (catch96 p (w.heap.size + 1) w.heap.size a x [] w2 k1 k0 ⟨_, hR.c1⟩ ⟨_, hR.c3⟩ ⟨_, hR.c4⟩ (hR.fz 1 (by omega)) (hR.fz 3 (by omega)) (hR.fz 4 (by omega)) hn1 hn0).mono ?_
    rintro e u' w'' ⟨rfl, rfl, rfl⟩
    exact ⟨_, results_tmp rfl _ _ _, rfl, ((hR.setAt a (unhide H).le).setCode x).setPlace a, ((hF2.setCell (p := ⟨p, 1, none⟩) (fun _ => rfl) _).setCell (p := ⟨p, 3, none⟩) (fun _ => rfl) _).setCell (p := ⟨p, 4, none⟩) (fun _ => rfl) _⟩

end

theorem catch97 (p st rb : Nat) (a : Nat) (x : Int) (older : List PanicEntry) (w : World) (hs : w.cell? ⟨st, 0, none⟩ = some (.int .i64 a)) (hr : w.cell? ⟨rb, 0, none⟩ = some (.pointer (some ⟨p, 0, none⟩)))
    (c1 : ∃ v, w.cell? ⟨p, 1, none⟩ = some v) (c3 : ∃ v, w.cell? ⟨p, 3, none⟩ = some v) (c4 : ∃ v, w.cell? ⟨p, 4, none⟩ = some v) (f1 : w.frozen? ⟨p, 1, none⟩ = false) (f3 : w.frozen? ⟨p, 3, none⟩ = false) (f4 : w.frozen? ⟨p, 4, none⟩ = false) (_hsp : st ≠ p) (_hrp : rb ≠ p) :
    CallsD Tryz.prog 127 #[.pointer (some ⟨st, 0, none⟩), .pointer (some ⟨rb, 0, none⟩)] (.panicking ({ v := .iface 31 (.int .i64 x), recovered := false } :: older)) w fun e u' w' =>
      e = .returned (.tuple #[]) ∧ u' = .panicking ({ v := .iface 31 (.int .i64 x), recovered := true } :: older) ∧ w' = ((w.setCell ⟨p, 1, none⟩ (.int .i64 a)).setCell ⟨p, 3, none⟩ (.int .i64 x)).setCell ⟨p, 4, none⟩ (.int .i64 a) := by
  obtain ⟨v1, c1⟩ := c1
  obtain ⟨v3, c3⟩ := c3
  obtain ⟨v4, c4⟩ := c4
  refine callsD_of_wpS Tryz.func127 rfl fun c₀ cs hu => ?_
  apply wpS_seq
  apply wpS_region
  simp [wpOpsS, go_sem, recoverD, hu, Tryz.ntmps127, Exit.thenS, assert_errno]
  apply wpS_seq
  apply wpS_region
  simp [wpOpsS, go_sem, Exit.thenS]
  refine wpS_cond (t := true) (by simp [Act.eval, Array.replicate]) ?_
  simp only [if_true]
  refine wpS_of_wp ?_
  go_wp2
  exact ⟨rfl, _, rfl, .tuple #[], by simp [results, Tryz.results127], rfl, rfl, rfl⟩

theorem idle97 (st rb : Nat) (w : World) :
    CallsD Tryz.prog 127 #[.pointer (some ⟨st, 0, none⟩), .pointer (some ⟨rb, 0, none⟩)] .returning w fun e u' w' => e = .returned (.tuple #[]) ∧ u' = .returning ∧ w = w' := by
  refine callsD_of_wpS Tryz.func127 rfl fun c₀ cs hu => ?_
  apply wpS_seq
  apply wpS_region
  simp [wpOpsS, go_sem, recoverD, hu, Tryz.ntmps127, Exit.thenS, assert_nil]
  apply wpS_seq
  apply wpS_region
  simp [wpOpsS, go_sem, Exit.thenS]
  refine wpS_cond (t := false) (by simp [Act.eval, Array.replicate]) ?_
  simp only [Bool.false_eq_true, if_false]
  refine wpS_of_wp (wp_skip ?_)
  cases c₀
  simp_all [bodyPostS, results, Tryz.results127]

section
variable {w : World} {p g : Nat} {bs : List UInt8} {a l : Nat} {c f : Int}

theorem take66_failed (h : RAt w p g bs a l c f) (hc : c ≠ 0) (fv : Value) :
    Calls Tryz.prog 115 #[.pointer (some ⟨p, 0, none⟩), fv] w fun e w' => e = .returned (.float .f64 0) ∧ RAt w' p g bs a l c f ∧ Fr (fun _ => False) w w' := by
  have H := hide h
  have hlt := h.lt
  have hcn : (c != 0) = true := by simp [hc]
  clear h hc
  go_enter_defers Tryz.func115, Tryz.ntmps115
  go_wp2_with fail
  refine (failed_any p c _ ((unhide H).alloc _).c3).mono ?_
  rintro e w1 ⟨rfl, rfl⟩
  go_wp2
  exact ⟨_, results_tmp rfl _ _ _, rfl, (unhide H).alloc _, (Fr.refl _ _).alloc _⟩

end

section
variable {w : World} {p g : Nat} {bs : List UInt8} {a l : Nat} {f : Int}

theorem take67_any (h : RAt w p g bs a l 0 f) (caps : Array Value) (o : Except Int (Value × Nat))
    (hpiece : ∀ w1, Fr (fun _ => False) w w1 → RAt w1 p g bs a l 0 f → Calls Tryz.prog 116 caps w1 (Took p g bs l 0 f w1 o)) :
    Calls Tryz.prog 115 #[.pointer (some ⟨p, 0, none⟩), .func (Fn.func 116) #[] caps] w (Done p g bs a l f w (.float .f64 0) o) := by
  have H := hide h
  have HP := hide hpiece
  have hlt := h.lt
  have hmf := makes
  have hat := h.c1
  clear h hpiece
  go_enter_defers Tryz.func115, Tryz.ntmps115
  go_wp2_with fail
  refine (failed_no p _ ((unhide H).alloc _).c3).mono ?_
  rintro e w1 ⟨rfl, rfl⟩
  go_wp2_with fail
  have hn0 : w.heap.size ≠ p := by omega
  have hn1 : w.heap.size + 1 ≠ p := by omega
  have hF0 : Fr (fun _ => False) w ((w.alloc (.cells #[.pointer (some ⟨p, 0, none⟩)] 57)).alloc (.cells #[.int .i64 a] 3)) := ((Fr.refl _ _).alloc _).alloc _
  have hR0 := ((unhide H).alloc (.cells #[.pointer (some ⟨p, 0, none⟩)] 57)).alloc (.cells #[.int .i64 a] 3)
  have hb0 : ((w.alloc (.cells #[.pointer (some ⟨p, 0, none⟩)] 57)).alloc (.cells #[.int .i64 a] 3)).cell? ⟨w.heap.size, 0, none⟩ = some (.pointer (some ⟨p, 0, none⟩)) := by simp [go_sem]
  have hb1 : ((w.alloc (.cells #[.pointer (some ⟨p, 0, none⟩)] 57)).alloc (.cells #[.int .i64 a] 3)).cell? ⟨w.heap.size + 1, 0, none⟩ = some (.int .i64 a) := by simp [go_sem]
  refine (unhide HP _ hF0 hR0).mono ?_
  cases o with
  | ok va =>
    obtain ⟨v, a'⟩ := va
    rintro e w2 ⟨rfl, hR, hF⟩
    have k0 := (hF.cell (a := ⟨w.heap.size, 0, none⟩) (by simp; omega) hn0).trans hb0
    have k1 := (hF.cell (a := ⟨w.heap.size + 1, 0, none⟩) (by simp) hn1).trans hb1
    have k2 := hR.c2
    have fz2 := hR.fz 2 (by omega)
    have H2 := hide (And.intro hR ((hF0.mono (T := (· = p)) (fun _ _ t => t.elim)).trans hF (fun _ _ t => t)))
    clear hR hF hR0 hF0 hb0 hb1 HP H hat
    go_wp2
    refine leaves_cons (f := 127) (args := #[.pointer (some ⟨w.heap.size + 1, 0, none⟩), .pointer (some ⟨w.heap.size, 0, none⟩)]) (by simp) (by simp [go_sem]) ?_
    refine (idle97 _ _ _).mono ?_
    rintro e u' w'' ⟨rfl, rfl, rfl⟩
    exact ⟨_, results_tmp rfl _ _ _, rfl, (unhide H2).1.setLast a, (unhide H2).2.setCell (p := ⟨p, 2, none⟩) (fun _ => rfl) _⟩
  | error x =>
    rintro e w2 ⟨rfl, ⟨a', hR⟩, hF⟩
    have k0 := (hF.cell (a := ⟨w.heap.size, 0, none⟩) (by simp; omega) hn0).trans hb0
    have k1 := (hF.cell (a := ⟨w.heap.size + 1, 0, none⟩) (by simp) hn1).trans hb1
    have hF2 : Fr (· = p) w w2 := (hF0.mono (T := (· = p)) (fun _ _ t => t.elim)).trans hF (fun _ _ t => t)
    refine leaves_cons (f := 127) (args := #[.pointer (some ⟨w.heap.size + 1, 0, none⟩), .pointer (some ⟨w.heap.size, 0, none⟩)]) (by simp) (by simp [go_sem]) ?_
    refine (catch97 p (w.heap.size + 1) w.heap.size a x [] w2 k1 k0 ⟨_, hR.c1⟩ ⟨_, hR.c3⟩ ⟨_, hR.c4⟩ (hR.fz 1 (by omega)) (hR.fz 3 (by omega)) (hR.fz 4 (by omega)) hn1 hn0).mono ?_
    rintro e u' w'' ⟨rfl, rfl, rfl⟩
    exact ⟨_, results_tmp rfl _ _ _, rfl, ((hR.setAt a (unhide H).le).setCode x).setPlace a, ((hF2.setCell (p := ⟨p, 1, none⟩) (fun _ => rfl) _).setCell (p := ⟨p, 3, none⟩) (fun _ => rfl) _).setCell (p := ⟨p, 4, none⟩) (fun _ => rfl) _⟩

end

section
variable {w : World} {p g : Nat} {bs : List UInt8} {a l : Nat} {c f : Int}

end

section
variable {w : World} {p g : Nat} {bs : List UInt8} {a l : Nat} {f : Int}

end

theorem catch99 (p st rb : Nat) (a : Nat) (x : Int) (older : List PanicEntry) (w : World) (hs : w.cell? ⟨st, 0, none⟩ = some (.int .i64 a)) (hr : w.cell? ⟨rb, 0, none⟩ = some (.pointer (some ⟨p, 0, none⟩)))
    (c1 : ∃ v, w.cell? ⟨p, 1, none⟩ = some v) (c3 : ∃ v, w.cell? ⟨p, 3, none⟩ = some v) (c4 : ∃ v, w.cell? ⟨p, 4, none⟩ = some v) (f1 : w.frozen? ⟨p, 1, none⟩ = false) (f3 : w.frozen? ⟨p, 3, none⟩ = false) (f4 : w.frozen? ⟨p, 4, none⟩ = false) (_hsp : st ≠ p) (_hrp : rb ≠ p) :
    CallsD Tryz.prog 128 #[.pointer (some ⟨st, 0, none⟩), .pointer (some ⟨rb, 0, none⟩)] (.panicking ({ v := .iface 31 (.int .i64 x), recovered := false } :: older)) w fun e u' w' =>
      e = .returned (.tuple #[]) ∧ u' = .panicking ({ v := .iface 31 (.int .i64 x), recovered := true } :: older) ∧ w' = ((w.setCell ⟨p, 1, none⟩ (.int .i64 a)).setCell ⟨p, 3, none⟩ (.int .i64 x)).setCell ⟨p, 4, none⟩ (.int .i64 a) := by
  obtain ⟨v1, c1⟩ := c1
  obtain ⟨v3, c3⟩ := c3
  obtain ⟨v4, c4⟩ := c4
  refine callsD_of_wpS Tryz.func128 rfl fun c₀ cs hu => ?_
  apply wpS_seq
  apply wpS_region
  simp [wpOpsS, go_sem, recoverD, hu, Tryz.ntmps128, Exit.thenS, assert_errno]
  apply wpS_seq
  apply wpS_region
  simp [wpOpsS, go_sem, Exit.thenS]
  refine wpS_cond (t := true) (by simp [Act.eval, Array.replicate]) ?_
  simp only [if_true]
  refine wpS_of_wp ?_
  go_wp2
  exact ⟨rfl, _, rfl, .tuple #[], by simp [results, Tryz.results128], rfl, rfl, rfl⟩

theorem idle99 (st rb : Nat) (w : World) :
    CallsD Tryz.prog 128 #[.pointer (some ⟨st, 0, none⟩), .pointer (some ⟨rb, 0, none⟩)] .returning w fun e u' w' => e = .returned (.tuple #[]) ∧ u' = .returning ∧ w = w' := by
  refine callsD_of_wpS Tryz.func128 rfl fun c₀ cs hu => ?_
  apply wpS_seq
  apply wpS_region
  simp [wpOpsS, go_sem, recoverD, hu, Tryz.ntmps128, Exit.thenS, assert_nil]
  apply wpS_seq
  apply wpS_region
  simp [wpOpsS, go_sem, Exit.thenS]
  refine wpS_cond (t := false) (by simp [Act.eval, Array.replicate]) ?_
  simp only [Bool.false_eq_true, if_false]
  refine wpS_of_wp (wp_skip ?_)
  cases c₀
  simp_all [bodyPostS, results, Tryz.results128]

section
variable {w : World} {p g : Nat} {bs : List UInt8} {a l : Nat} {c f : Int}

theorem take72_failed (h : RAt w p g bs a l c f) (hc : c ≠ 0) (fv : Value) :
    Calls Tryz.prog 122 #[.pointer (some ⟨p, 0, none⟩), fv] w fun e w' => e = .returned (.string ⟨#[]⟩) ∧ RAt w' p g bs a l c f ∧ Fr (fun _ => False) w w' := by
  have H := hide h
  have hlt := h.lt
  have hcn : (c != 0) = true := by simp [hc]
  clear h hc
  go_enter_defers Tryz.func122, Tryz.ntmps122
  go_wp2_with fail
  refine (failed_any p c _ ((unhide H).alloc _).c3).mono ?_
  rintro e w1 ⟨rfl, rfl⟩
  go_wp2
  exact ⟨_, results_tmp rfl _ _ _, rfl, (unhide H).alloc _, (Fr.refl _ _).alloc _⟩

end

section
variable {w : World} {p g : Nat} {bs : List UInt8} {a l : Nat} {f : Int}

end

section
variable {w : World} {p g : Nat} {bs : List UInt8} {a l : Nat} {f : Int}

theorem take76_any (h : RAt w p g bs a l 0 f) (caps : Array Value) (o : Except Int (Value × Nat))
    (hpiece : ∀ w1, Fr (fun _ => False) w w1 → RAt w1 p g bs a l 0 f → Calls Tryz.prog 123 caps w1 (Took p g bs l 0 f w1 o)) :
    Calls Tryz.prog 122 #[.pointer (some ⟨p, 0, none⟩), .func (Fn.func 123) #[] caps] w (Done p g bs a l f w (.string ⟨#[]⟩) o) := by
  have H := hide h
  have HP := hide hpiece
  have hlt := h.lt
  have hmf := makes
  have hat := h.c1
  clear h hpiece
  go_enter_defers Tryz.func122, Tryz.ntmps122
  go_wp2_with fail
  refine (failed_no p _ ((unhide H).alloc _).c3).mono ?_
  rintro e w1 ⟨rfl, rfl⟩
  go_wp2_with fail
  have hn0 : w.heap.size ≠ p := by omega
  have hn1 : w.heap.size + 1 ≠ p := by omega
  have hF0 : Fr (fun _ => False) w ((w.alloc (.cells #[.pointer (some ⟨p, 0, none⟩)] 57)).alloc (.cells #[.int .i64 a] 3)) := ((Fr.refl _ _).alloc _).alloc _
  have hR0 := ((unhide H).alloc (.cells #[.pointer (some ⟨p, 0, none⟩)] 57)).alloc (.cells #[.int .i64 a] 3)
  have hb0 : ((w.alloc (.cells #[.pointer (some ⟨p, 0, none⟩)] 57)).alloc (.cells #[.int .i64 a] 3)).cell? ⟨w.heap.size, 0, none⟩ = some (.pointer (some ⟨p, 0, none⟩)) := by simp [go_sem]
  have hb1 : ((w.alloc (.cells #[.pointer (some ⟨p, 0, none⟩)] 57)).alloc (.cells #[.int .i64 a] 3)).cell? ⟨w.heap.size + 1, 0, none⟩ = some (.int .i64 a) := by simp [go_sem]
  refine (unhide HP _ hF0 hR0).mono ?_
  cases o with
  | ok va =>
    obtain ⟨v, a'⟩ := va
    rintro e w2 ⟨rfl, hR, hF⟩
    have k0 := (hF.cell (a := ⟨w.heap.size, 0, none⟩) (by simp; omega) hn0).trans hb0
    have k1 := (hF.cell (a := ⟨w.heap.size + 1, 0, none⟩) (by simp) hn1).trans hb1
    have k2 := hR.c2
    have fz2 := hR.fz 2 (by omega)
    have H2 := hide (And.intro hR ((hF0.mono (T := (· = p)) (fun _ _ t => t.elim)).trans hF (fun _ _ t => t)))
    clear hR hF hR0 hF0 hb0 hb1 HP H hat
    go_wp2
    refine leaves_cons (f := 128) (args := #[.pointer (some ⟨w.heap.size + 1, 0, none⟩), .pointer (some ⟨w.heap.size, 0, none⟩)]) (by simp) (by simp [go_sem]) ?_
    refine (idle99 _ _ _).mono ?_
    rintro e u' w'' ⟨rfl, rfl, rfl⟩
    exact ⟨_, results_tmp rfl _ _ _, rfl, (unhide H2).1.setLast a, (unhide H2).2.setCell (p := ⟨p, 2, none⟩) (fun _ => rfl) _⟩
  | error x =>
    rintro e w2 ⟨rfl, ⟨a', hR⟩, hF⟩
    have k0 := (hF.cell (a := ⟨w.heap.size, 0, none⟩) (by simp; omega) hn0).trans hb0
    have k1 := (hF.cell (a := ⟨w.heap.size + 1, 0, none⟩) (by simp) hn1).trans hb1
    have hF2 : Fr (· = p) w w2 := (hF0.mono (T := (· = p)) (fun _ _ t => t.elim)).trans hF (fun _ _ t => t)
    refine leaves_cons (f := 128) (args := #[.pointer (some ⟨w.heap.size + 1, 0, none⟩), .pointer (some ⟨w.heap.size, 0, none⟩)]) (by simp) (by simp [go_sem]) ?_
    refine (catch99 p (w.heap.size + 1) w.heap.size a x [] w2 k1 k0 ⟨_, hR.c1⟩ ⟨_, hR.c3⟩ ⟨_, hR.c4⟩ (hR.fz 1 (by omega)) (hR.fz 3 (by omega)) (hR.fz 4 (by omega)) hn1 hn0).mono ?_
    rintro e u' w'' ⟨rfl, rfl, rfl⟩
    exact ⟨_, results_tmp rfl _ _ _, rfl, ((hR.setAt a (unhide H).le).setCode x).setPlace a, ((hF2.setCell (p := ⟨p, 1, none⟩) (fun _ => rfl) _).setCell (p := ⟨p, 3, none⟩) (fun _ => rfl) _).setCell (p := ⟨p, 4, none⟩) (fun _ => rfl) _⟩

end

end Go.Proofs.YtkjoojamkbpfcaaGreat
