/- Contracts of put and of the writer's exported calls. -/
import Derived.Test.YtkjoojamkbpfcaaGreatB4
namespace Go.Proofs.YtkjoojamkbpfcaaGreat
open Go.RowKit

/-- A writer's state: its bytes, or none where something was wrong. -/
def WSt (w : World) (p g : Nat) : Option (List UInt8) → Prop
  | some bs => WAt w p g bs
  | none => w.cell? ⟨p, 1, none⟩ = some (.bool true)

def stepW (s o : Option (List UInt8)) : Option (List UInt8) :=
  match s, o with
  | some bs, some ms => some (bs ++ ms)
  | _, _ => none

def WPuts (p g : Nat) (s : Option (List UInt8)) (w w' : World) : Prop := ∃ g', WSt w' p g' s ∧ Fr (fun k => k = p ∨ k = g) w w' ∧ (g' = g ∨ w.heap.size ≤ g')

theorem Puts.some {p g : Nat} {bs : List UInt8} {w w' : World} (h : Puts p g bs w w') : WPuts p g (some bs) w w' := h

theorem WPuts.later {p g : Nat} {s : Option (List UInt8)} {w w1 w2 : World} (hf : Fr (fun _ => False) w w1) (h : WPuts p g s w1 w2) : WPuts p g s w w2 := by
  obtain ⟨g', h1, h2, h3⟩ := h
  exact ⟨g', h1, (hf.mono (fun _ _ t => t.elim)).trans h2 (fun _ _ t => t), h3.imp id (fun t => Nat.le_trans hf.size t)⟩

theorem catch100 (p rb : Nat) (x : Int) (older : List PanicEntry) (w : World) (hr : w.cell? ⟨rb, 0, none⟩ = some (.pointer (some ⟨p, 0, none⟩)))
    (c0 : ∃ v, w.cell? ⟨p, 0, none⟩ = some v) (c1 : ∃ v, w.cell? ⟨p, 1, none⟩ = some v) (f0 : w.frozen? ⟨p, 0, none⟩ = false) (f1 : w.frozen? ⟨p, 1, none⟩ = false) :
    CallsD Tryz.prog 125 #[.pointer (some ⟨rb, 0, none⟩)] (.panicking ({ v := .iface 31 (.int .i64 x), recovered := false } :: older)) w fun e u' w' =>
      e = .returned (.tuple #[]) ∧ u' = .panicking ({ v := .iface 31 (.int .i64 x), recovered := true } :: older) ∧ w' = (w.setCell ⟨p, 0, none⟩ (.slice none 0 0)).setCell ⟨p, 1, none⟩ (.bool true) := by
  obtain ⟨v0, c0⟩ := c0
  obtain ⟨v1, c1⟩ := c1
  refine callsD_of_wpS Tryz.func125 rfl fun c₀ cs hu => ?_
  apply wpS_seq
  apply wpS_region
  simp [wpOpsS, go_sem, recoverD, hu, Tryz.ntmps125, Exit.thenS]
  refine wpS_cond (t := true) (by simp [Act.eval, Array.replicate]) ?_
  simp only [if_true]
  refine wpS_of_wp ?_
  go_wp2
  exact ⟨rfl, _, rfl, .tuple #[], by simp [results, Tryz.results125], rfl, rfl, rfl⟩

theorem idle100 (rb : Nat) (w : World) :
    CallsD Tryz.prog 125 #[.pointer (some ⟨rb, 0, none⟩)] .returning w fun e u' w' => e = .returned (.tuple #[]) ∧ u' = .returning ∧ w = w' := by
  refine callsD_of_wpS Tryz.func125 rfl fun c₀ cs hu => ?_
  apply wpS_seq
  apply wpS_region
  simp [wpOpsS, go_sem, recoverD, hu, Tryz.ntmps125, Exit.thenS]
  refine wpS_cond (t := false) (by simp [Act.eval, Array.replicate]) ?_
  simp only [Bool.false_eq_true, if_false]
  refine wpS_of_wp (wp_skip ?_)
  cases c₀
  simp_all [bodyPostS, results, Tryz.results125]

theorem put_bad {w : World} {p : Nat} (c1 : w.cell? ⟨p, 1, none⟩ = some (.bool true)) (fv : Value) :
    Calls Tryz.prog 106 #[.pointer (some ⟨p, 0, none⟩), fv] w fun e w' => e = .returned (.tuple #[]) ∧ w'.cell? ⟨p, 1, none⟩ = some (.bool true) ∧ Fr (fun _ => False) w w' := by
  have hlt := World.block_lt_of_cell? _ _ c1
  go_enter_defers Tryz.func106, Tryz.ntmps106
  go_wp2
  exact ⟨_, results_none rfl _ _ _, rfl, (World.cell?_alloc_lt _ _ _ hlt).trans c1, (Fr.refl _ _).alloc _⟩

theorem put79_any {w : World} {p g : Nat} {bs : List UInt8} (h : WAt w p g bs) (caps : Array Value) (o : Option (List UInt8))
    (hpiece : ∀ w1, Fr (fun _ => False) w w1 → WAt w1 p g bs → Calls Tryz.prog 118 caps w1 (Put p g bs w1 o)) :
    Calls Tryz.prog 106 #[.pointer (some ⟨p, 0, none⟩), .func (Fn.func 118) #[] caps] w fun e w' => e = .returned (.tuple #[]) ∧ WPuts p g (stepW (some bs) o) w w' := by
  have H := hide h
  have HP := hide hpiece
  have hlt := h.lt
  have hgl := h.glt
  have hmf := makes
  have c1 := h.c1
  clear h hpiece
  go_enter_defers Tryz.func106, Tryz.ntmps106
  go_wp2_with fail
  have hn0 : w.heap.size ≠ p := by omega
  have hn1 : w.heap.size ≠ g := by omega
  have hF0 : Fr (fun _ => False) w (w.alloc (.cells #[.pointer (some ⟨p, 0, none⟩)] 56)) := (Fr.refl _ _).alloc _
  have hW0 := (unhide H).alloc (.cells #[.pointer (some ⟨p, 0, none⟩)] 56)
  have hb0 : (w.alloc (.cells #[.pointer (some ⟨p, 0, none⟩)] 56)).cell? ⟨w.heap.size, 0, none⟩ = some (.pointer (some ⟨p, 0, none⟩)) := by simp
  refine (unhide HP _ hF0 hW0).mono ?_
  cases o with
  | some ms =>
    rintro e w2 ⟨rfl, hP⟩
    have HP2 := hide (Puts.later hF0 hP)
    clear hP hW0 hF0 hb0 HP H c1
    go_wp2
    refine leaves_cons (f := 125) (args := #[.pointer (some ⟨w.heap.size, 0, none⟩)]) (by simp) (by simp [go_sem]) ?_
    refine (idle100 _ _).mono ?_
    rintro e u' w'' ⟨rfl, rfl, rfl⟩
    exact ⟨_, results_none rfl _ _ _, rfl, (unhide HP2).some⟩
  | none =>
    rintro e w2 ⟨rfl, rfl⟩
    obtain ⟨ao, cap, c0, _⟩ := hW0.c0
    refine leaves_cons (f := 125) (args := #[.pointer (some ⟨w.heap.size, 0, none⟩)]) (by simp) (by simp [go_sem]) ?_
    refine (catch100 p w.heap.size 1 [] _ hb0 ⟨_, c0⟩ ⟨_, hW0.c1⟩ hW0.f0 hW0.f1).mono ?_
    rintro e u' w'' ⟨rfl, rfl, rfl⟩
    refine ⟨_, results_none rfl _ _ _, rfl, g, ?_, (((hF0.mono (T := fun k => k = p ∨ k = g) (fun _ _ t => t.elim)).setCell (p := ⟨p, 0, none⟩) (fun _ => .inl rfl) _).setCell (p := ⟨p, 1, none⟩) (fun _ => .inl rfl) _), .inl rfl⟩
    exact World.cell?_setCell_same _ _ _ ((World.cell?_setCell_other _ _ _ _ (by simp)).trans hW0.c1)

theorem put83_any {w : World} {p g : Nat} {bs : List UInt8} (h : WAt w p g bs) (caps : Array Value) (o : Option (List UInt8))
    (hpiece : ∀ w1, Fr (fun _ => False) w w1 → WAt w1 p g bs → Calls Tryz.prog 107 caps w1 (Put p g bs w1 o)) :
    Calls Tryz.prog 106 #[.pointer (some ⟨p, 0, none⟩), .func (Fn.func 107) #[] caps] w fun e w' => e = .returned (.tuple #[]) ∧ WPuts p g (stepW (some bs) o) w w' := by
  have H := hide h
  have HP := hide hpiece
  have hlt := h.lt
  have hgl := h.glt
  have hmf := makes
  have c1 := h.c1
  clear h hpiece
  go_enter_defers Tryz.func106, Tryz.ntmps106
  go_wp2_with fail
  have hn0 : w.heap.size ≠ p := by omega
  have hn1 : w.heap.size ≠ g := by omega
  have hF0 : Fr (fun _ => False) w (w.alloc (.cells #[.pointer (some ⟨p, 0, none⟩)] 56)) := (Fr.refl _ _).alloc _
  have hW0 := (unhide H).alloc (.cells #[.pointer (some ⟨p, 0, none⟩)] 56)
  have hb0 : (w.alloc (.cells #[.pointer (some ⟨p, 0, none⟩)] 56)).cell? ⟨w.heap.size, 0, none⟩ = some (.pointer (some ⟨p, 0, none⟩)) := by simp
  refine (unhide HP _ hF0 hW0).mono ?_
  cases o with
  | some ms =>
    rintro e w2 ⟨rfl, hP⟩
    have HP2 := hide (Puts.later hF0 hP)
    clear hP hW0 hF0 hb0 HP H c1
    go_wp2
    refine leaves_cons (f := 125) (args := #[.pointer (some ⟨w.heap.size, 0, none⟩)]) (by simp) (by simp [go_sem]) ?_
    refine (idle100 _ _).mono ?_
    rintro e u' w'' ⟨rfl, rfl, rfl⟩
    exact ⟨_, results_none rfl _ _ _, rfl, (unhide HP2).some⟩
  | none =>
    rintro e w2 ⟨rfl, rfl⟩
    obtain ⟨ao, cap, c0, _⟩ := hW0.c0
    refine leaves_cons (f := 125) (args := #[.pointer (some ⟨w.heap.size, 0, none⟩)]) (by simp) (by simp [go_sem]) ?_
    refine (catch100 p w.heap.size 1 [] _ hb0 ⟨_, c0⟩ ⟨_, hW0.c1⟩ hW0.f0 hW0.f1).mono ?_
    rintro e u' w'' ⟨rfl, rfl, rfl⟩
    refine ⟨_, results_none rfl _ _ _, rfl, g, ?_, (((hF0.mono (T := fun k => k = p ∨ k = g) (fun _ _ t => t.elim)).setCell (p := ⟨p, 0, none⟩) (fun _ => .inl rfl) _).setCell (p := ⟨p, 1, none⟩) (fun _ => .inl rfl) _), .inl rfl⟩
    exact World.cell?_setCell_same _ _ _ ((World.cell?_setCell_other _ _ _ _ (by simp)).trans hW0.c1)

theorem put85_any {w : World} {p g : Nat} {bs : List UInt8} (h : WAt w p g bs) (caps : Array Value) (o : Option (List UInt8))
    (hpiece : ∀ w1, Fr (fun _ => False) w w1 → WAt w1 p g bs → Calls Tryz.prog 113 caps w1 (Put p g bs w1 o)) :
    Calls Tryz.prog 106 #[.pointer (some ⟨p, 0, none⟩), .func (Fn.func 113) #[] caps] w fun e w' => e = .returned (.tuple #[]) ∧ WPuts p g (stepW (some bs) o) w w' := by
  have H := hide h
  have HP := hide hpiece
  have hlt := h.lt
  have hgl := h.glt
  have hmf := makes
  have c1 := h.c1
  clear h hpiece
  go_enter_defers Tryz.func106, Tryz.ntmps106
  go_wp2_with fail
  have hn0 : w.heap.size ≠ p := by omega
  have hn1 : w.heap.size ≠ g := by omega
  have hF0 : Fr (fun _ => False) w (w.alloc (.cells #[.pointer (some ⟨p, 0, none⟩)] 56)) := (Fr.refl _ _).alloc _
  have hW0 := (unhide H).alloc (.cells #[.pointer (some ⟨p, 0, none⟩)] 56)
  have hb0 : (w.alloc (.cells #[.pointer (some ⟨p, 0, none⟩)] 56)).cell? ⟨w.heap.size, 0, none⟩ = some (.pointer (some ⟨p, 0, none⟩)) := by simp
  refine (unhide HP _ hF0 hW0).mono ?_
  cases o with
  | some ms =>
    rintro e w2 ⟨rfl, hP⟩
    have HP2 := hide (Puts.later hF0 hP)
    clear hP hW0 hF0 hb0 HP H c1
    go_wp2
    refine leaves_cons (f := 125) (args := #[.pointer (some ⟨w.heap.size, 0, none⟩)]) (by simp) (by simp [go_sem]) ?_
    refine (idle100 _ _).mono ?_
    rintro e u' w'' ⟨rfl, rfl, rfl⟩
    exact ⟨_, results_none rfl _ _ _, rfl, (unhide HP2).some⟩
  | none =>
    rintro e w2 ⟨rfl, rfl⟩
    obtain ⟨ao, cap, c0, _⟩ := hW0.c0
    refine leaves_cons (f := 125) (args := #[.pointer (some ⟨w.heap.size, 0, none⟩)]) (by simp) (by simp [go_sem]) ?_
    refine (catch100 p w.heap.size 1 [] _ hb0 ⟨_, c0⟩ ⟨_, hW0.c1⟩ hW0.f0 hW0.f1).mono ?_
    rintro e u' w'' ⟨rfl, rfl, rfl⟩
    refine ⟨_, results_none rfl _ _ _, rfl, g, ?_, (((hF0.mono (T := fun k => k = p ∨ k = g) (fun _ _ t => t.elim)).setCell (p := ⟨p, 0, none⟩) (fun _ => .inl rfl) _).setCell (p := ⟨p, 1, none⟩) (fun _ => .inl rfl) _), .inl rfl⟩
    exact World.cell?_setCell_same _ _ _ ((World.cell?_setCell_other _ _ _ _ (by simp)).trans hW0.c1)

theorem put86_any {w : World} {p g : Nat} {bs : List UInt8} (h : WAt w p g bs) (caps : Array Value) (o : Option (List UInt8))
    (hpiece : ∀ w1, Fr (fun _ => False) w w1 → WAt w1 p g bs → Calls Tryz.prog 121 caps w1 (Put p g bs w1 o)) :
    Calls Tryz.prog 106 #[.pointer (some ⟨p, 0, none⟩), .func (Fn.func 121) #[] caps] w fun e w' => e = .returned (.tuple #[]) ∧ WPuts p g (stepW (some bs) o) w w' := by
  have H := hide h
  have HP := hide hpiece
  have hlt := h.lt
  have hgl := h.glt
  have hmf := makes
  have c1 := h.c1
  clear h hpiece
  go_enter_defers Tryz.func106, Tryz.ntmps106
  go_wp2_with fail
  have hn0 : w.heap.size ≠ p := by omega
  have hn1 : w.heap.size ≠ g := by omega
  have hF0 : Fr (fun _ => False) w (w.alloc (.cells #[.pointer (some ⟨p, 0, none⟩)] 56)) := (Fr.refl _ _).alloc _
  have hW0 := (unhide H).alloc (.cells #[.pointer (some ⟨p, 0, none⟩)] 56)
  have hb0 : (w.alloc (.cells #[.pointer (some ⟨p, 0, none⟩)] 56)).cell? ⟨w.heap.size, 0, none⟩ = some (.pointer (some ⟨p, 0, none⟩)) := by simp
  refine (unhide HP _ hF0 hW0).mono ?_
  cases o with
  | some ms =>
    rintro e w2 ⟨rfl, hP⟩
    have HP2 := hide (Puts.later hF0 hP)
    clear hP hW0 hF0 hb0 HP H c1
    go_wp2
    refine leaves_cons (f := 125) (args := #[.pointer (some ⟨w.heap.size, 0, none⟩)]) (by simp) (by simp [go_sem]) ?_
    refine (idle100 _ _).mono ?_
    rintro e u' w'' ⟨rfl, rfl, rfl⟩
    exact ⟨_, results_none rfl _ _ _, rfl, (unhide HP2).some⟩
  | none =>
    rintro e w2 ⟨rfl, rfl⟩
    obtain ⟨ao, cap, c0, _⟩ := hW0.c0
    refine leaves_cons (f := 125) (args := #[.pointer (some ⟨w.heap.size, 0, none⟩)]) (by simp) (by simp [go_sem]) ?_
    refine (catch100 p w.heap.size 1 [] _ hb0 ⟨_, c0⟩ ⟨_, hW0.c1⟩ hW0.f0 hW0.f1).mono ?_
    rintro e u' w'' ⟨rfl, rfl, rfl⟩
    refine ⟨_, results_none rfl _ _ _, rfl, g, ?_, (((hF0.mono (T := fun k => k = p ∨ k = g) (fun _ _ t => t.elim)).setCell (p := ⟨p, 0, none⟩) (fun _ => .inl rfl) _).setCell (p := ⟨p, 1, none⟩) (fun _ => .inl rfl) _), .inl rfl⟩
    exact World.cell?_setCell_same _ _ _ ((World.cell?_setCell_other _ _ _ _ (by simp)).trans hW0.c1)

end Go.Proofs.YtkjoojamkbpfcaaGreat
