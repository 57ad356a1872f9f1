/- The law's own functions put and nothing: what becomes of the writer, of the reader. -/
import Derived.Test.YtdbmojiplfkniaaC1
namespace Go.Proofs.Ytdbmojiplfkniaa
open Go.RowKit

/-- A piece, as the law's struct has it. -/
structure Pc where
  kind : Int
  n : Int
  size : Int
  x : Nat
  is : Bool
  s : ByteArray

def Pc.vals (q : Pc) : Array Value := #[.int .i64 q.kind, .int .i64 q.n, .int .i64 q.size, .float .f64 q.x, .bool q.is, .string q.s]

/-- What a piece's bytes are, if it is one that is put. -/
def Pc.bytes (q : Pc) : Option (List UInt8) :=
  if q.kind = 0 then wNumber q.n q.size else if q.kind = 1 then wInt q.n else if q.kind = 2 then wFloat q.x else if q.kind = 3 then wBool q.is
  else if q.kind = 4 then wText q.s else if q.kind = 5 then wFixed q.s q.size else if q.kind = 6 then wCount q.n else some []

def putW (s : Option (List UInt8)) (q : Pc) : Option (List UInt8) := stepW s q.bytes

theorem stepW_nil (s : Option (List UInt8)) : stepW s (some []) = s := by cases s <;> simp [stepW]

theorem WSt.alloc {w : World} {p g : Nat} {s : Option (List UInt8)} (h : WSt w p g s) (o : Obj) : WSt (w.alloc o) p g s := by
  cases s with
  | some bs => exact WAt.alloc h o
  | none => exact (World.cell?_alloc_lt _ _ _ (World.block_lt_of_cell? _ _ h)).trans h

theorem WSt.lt {w : World} {p g : Nat} {s : Option (List UInt8)} (h : WSt w p g s) : p < w.heap.size := by
  cases s with
  | some bs => exact WAt.lt h
  | none => exact World.block_lt_of_cell? _ _ h

theorem lput0 {w : World} {p g : Nat} {s : Option (List UInt8)} (h : WSt w p g s) (hfit : ∀ bs, s = some bs → bs.length + 65537 ≤ 140737488355328) (q : Pc) (hn : q.n ≤ 9223372036854775807) (hk : q.kind = 0) :
    Calls Try.prog 11 #[.pointer (some ⟨p, 0, none⟩), .agg q.vals] w fun e w' => e = .returned (.tuple #[]) ∧ WPuts p g (putW s q) w w' := by
  obtain ⟨kind, n, size, x, is, t⟩ := q
  have hk' : kind = 0 := hk
  subst hk'
  have H := hide h
  have HN := hide hn
  have hlt := h.lt
  clear h hk hn
  rw [show putW s ⟨0, n, size, x, is, t⟩ = stepW s (wNumber n size) from rfl]
  simp only [Pc.vals]
  have hF0 : Fr (fun _ => False) w (w.alloc (.cells #[.int .i64 0, .int .i64 n, .int .i64 size, .float .f64 x, .bool is, .string t] 34)) := (Fr.refl _ _).alloc _
  have HF := hide hF0
  clear hF0
  go_enter Try.func11, Try.ntmps11
  go_wp2_with fail
  refine (wnumber_any ((unhide H).alloc _) (fun bs h => by have := hfit bs h; omega) n size (unhide HN)).mono ?_
  rintro e w1 ⟨rfl, hP⟩
  have HP := hide (WPuts.later (unhide HF) hP)
  clear hP HF H
  go_wp2
  go_end0
  exact ⟨rfl, unhide HP⟩

theorem lput1 {w : World} {p g : Nat} {s : Option (List UInt8)} (h : WSt w p g s) (hfit : ∀ bs, s = some bs → bs.length + 65537 ≤ 140737488355328) (q : Pc) (hn : q.n ≤ 9223372036854775807) (hk : q.kind = 1) :
    Calls Try.prog 11 #[.pointer (some ⟨p, 0, none⟩), .agg q.vals] w fun e w' => e = .returned (.tuple #[]) ∧ WPuts p g (putW s q) w w' := by
  obtain ⟨kind, n, size, x, is, t⟩ := q
  have hk' : kind = 1 := hk
  subst hk'
  have H := hide h
  have HN := hide hn
  have hlt := h.lt
  clear h hk hn
  rw [show putW s ⟨1, n, size, x, is, t⟩ = stepW s (wInt n) from rfl]
  simp only [Pc.vals]
  have hF0 : Fr (fun _ => False) w (w.alloc (.cells #[.int .i64 1, .int .i64 n, .int .i64 size, .float .f64 x, .bool is, .string t] 34)) := (Fr.refl _ _).alloc _
  have HF := hide hF0
  clear hF0
  go_enter Try.func11, Try.ntmps11
  go_wp2_with fail
  refine (wint_any ((unhide H).alloc _) (fun bs h => by have := hfit bs h; omega) n).mono ?_
  rintro e w1 ⟨rfl, hP⟩
  have HP := hide (WPuts.later (unhide HF) hP)
  clear hP HF H
  go_wp2
  go_end0
  exact ⟨rfl, unhide HP⟩

theorem lput2 {w : World} {p g : Nat} {s : Option (List UInt8)} (h : WSt w p g s) (hfit : ∀ bs, s = some bs → bs.length + 65537 ≤ 140737488355328) (q : Pc) (hn : q.n ≤ 9223372036854775807) (hk : q.kind = 2) :
    Calls Try.prog 11 #[.pointer (some ⟨p, 0, none⟩), .agg q.vals] w fun e w' => e = .returned (.tuple #[]) ∧ WPuts p g (putW s q) w w' := by
  obtain ⟨kind, n, size, x, is, t⟩ := q
  have hk' : kind = 2 := hk
  subst hk'
  have H := hide h
  have HN := hide hn
  have hlt := h.lt
  clear h hk hn
  rw [show putW s ⟨2, n, size, x, is, t⟩ = stepW s (wFloat x) from rfl]
  simp only [Pc.vals]
  have hF0 : Fr (fun _ => False) w (w.alloc (.cells #[.int .i64 2, .int .i64 n, .int .i64 size, .float .f64 x, .bool is, .string t] 34)) := (Fr.refl _ _).alloc _
  have HF := hide hF0
  clear hF0
  go_enter Try.func11, Try.ntmps11
  go_wp2_with fail
  refine (wfloat_any ((unhide H).alloc _) (fun bs h => by have := hfit bs h; omega) x).mono ?_
  rintro e w1 ⟨rfl, hP⟩
  have HP := hide (WPuts.later (unhide HF) hP)
  clear hP HF H
  go_wp2
  go_end0
  exact ⟨rfl, unhide HP⟩

theorem lput3 {w : World} {p g : Nat} {s : Option (List UInt8)} (h : WSt w p g s) (hfit : ∀ bs, s = some bs → bs.length + 65537 ≤ 140737488355328) (q : Pc) (hn : q.n ≤ 9223372036854775807) (hk : q.kind = 3) :
    Calls Try.prog 11 #[.pointer (some ⟨p, 0, none⟩), .agg q.vals] w fun e w' => e = .returned (.tuple #[]) ∧ WPuts p g (putW s q) w w' := by
  obtain ⟨kind, n, size, x, is, t⟩ := q
  have hk' : kind = 3 := hk
  subst hk'
  have H := hide h
  have HN := hide hn
  have hlt := h.lt
  clear h hk hn
  rw [show putW s ⟨3, n, size, x, is, t⟩ = stepW s (wBool is) from rfl]
  simp only [Pc.vals]
  have hF0 : Fr (fun _ => False) w (w.alloc (.cells #[.int .i64 3, .int .i64 n, .int .i64 size, .float .f64 x, .bool is, .string t] 34)) := (Fr.refl _ _).alloc _
  have HF := hide hF0
  clear hF0
  go_enter Try.func11, Try.ntmps11
  go_wp2_with fail
  refine (wbool_any ((unhide H).alloc _) (fun bs h => by have := hfit bs h; omega) is).mono ?_
  rintro e w1 ⟨rfl, hP⟩
  have HP := hide (WPuts.later (unhide HF) hP)
  clear hP HF H
  go_wp2
  go_end0
  exact ⟨rfl, unhide HP⟩

theorem lput4 {w : World} {p g : Nat} {s : Option (List UInt8)} (h : WSt w p g s) (hfit : ∀ bs, s = some bs → bs.length + 65537 ≤ 140737488355328) (q : Pc) (hn : q.n ≤ 9223372036854775807) (hk : q.kind = 4) :
    Calls Try.prog 11 #[.pointer (some ⟨p, 0, none⟩), .agg q.vals] w fun e w' => e = .returned (.tuple #[]) ∧ WPuts p g (putW s q) w w' := by
  obtain ⟨kind, n, size, x, is, t⟩ := q
  have hk' : kind = 4 := hk
  subst hk'
  have H := hide h
  have HN := hide hn
  have hlt := h.lt
  clear h hk hn
  rw [show putW s ⟨4, n, size, x, is, t⟩ = stepW s (wText t) from rfl]
  simp only [Pc.vals]
  have hF0 : Fr (fun _ => False) w (w.alloc (.cells #[.int .i64 4, .int .i64 n, .int .i64 size, .float .f64 x, .bool is, .string t] 34)) := (Fr.refl _ _).alloc _
  have HF := hide hF0
  clear hF0
  go_enter Try.func11, Try.ntmps11
  go_wp2_with fail
  refine (wtext_any ((unhide H).alloc _) t (fun bs h h2 => by have := hfit bs h; omega)).mono ?_
  rintro e w1 ⟨rfl, hP⟩
  have HP := hide (WPuts.later (unhide HF) hP)
  clear hP HF H
  go_wp2
  go_end0
  exact ⟨rfl, unhide HP⟩

theorem lput5 {w : World} {p g : Nat} {s : Option (List UInt8)} (h : WSt w p g s) (hfit : ∀ bs, s = some bs → bs.length + 65537 ≤ 140737488355328) (q : Pc) (hn : q.n ≤ 9223372036854775807) (hk : q.kind = 5) :
    Calls Try.prog 11 #[.pointer (some ⟨p, 0, none⟩), .agg q.vals] w fun e w' => e = .returned (.tuple #[]) ∧ WPuts p g (putW s q) w w' := by
  obtain ⟨kind, n, size, x, is, t⟩ := q
  have hk' : kind = 5 := hk
  subst hk'
  have H := hide h
  have HN := hide hn
  have hlt := h.lt
  clear h hk hn
  rw [show putW s ⟨5, n, size, x, is, t⟩ = stepW s (wFixed t size) from rfl]
  simp only [Pc.vals]
  have hF0 : Fr (fun _ => False) w (w.alloc (.cells #[.int .i64 5, .int .i64 n, .int .i64 size, .float .f64 x, .bool is, .string t] 34)) := (Fr.refl _ _).alloc _
  have HF := hide hF0
  clear hF0
  go_enter Try.func11, Try.ntmps11
  go_wp2_with fail
  refine (wfixed_any ((unhide H).alloc _) t size (fun bs h h2 => by have := hfit bs h; omega)).mono ?_
  rintro e w1 ⟨rfl, hP⟩
  have HP := hide (WPuts.later (unhide HF) hP)
  clear hP HF H
  go_wp2
  go_end0
  exact ⟨rfl, unhide HP⟩

theorem lput6 {w : World} {p g : Nat} {s : Option (List UInt8)} (h : WSt w p g s) (hfit : ∀ bs, s = some bs → bs.length + 65537 ≤ 140737488355328) (q : Pc) (hn : q.n ≤ 9223372036854775807) (hk : q.kind = 6) :
    Calls Try.prog 11 #[.pointer (some ⟨p, 0, none⟩), .agg q.vals] w fun e w' => e = .returned (.tuple #[]) ∧ WPuts p g (putW s q) w w' := by
  obtain ⟨kind, n, size, x, is, t⟩ := q
  have hk' : kind = 6 := hk
  subst hk'
  have H := hide h
  have HN := hide hn
  have hlt := h.lt
  clear h hk hn
  rw [show putW s ⟨6, n, size, x, is, t⟩ = stepW s (wCount n) from rfl]
  simp only [Pc.vals]
  have hF0 : Fr (fun _ => False) w (w.alloc (.cells #[.int .i64 6, .int .i64 n, .int .i64 size, .float .f64 x, .bool is, .string t] 34)) := (Fr.refl _ _).alloc _
  have HF := hide hF0
  clear hF0
  go_enter Try.func11, Try.ntmps11
  go_wp2_with fail
  refine (wcount_any ((unhide H).alloc _) (fun bs h => by have := hfit bs h; omega) n).mono ?_
  rintro e w1 ⟨rfl, hP⟩
  have HP := hide (WPuts.later (unhide HF) hP)
  clear hP HF H
  go_wp2
  go_end0
  exact ⟨rfl, unhide HP⟩

theorem lput_not {w : World} {p g : Nat} {s : Option (List UInt8)} (h : WSt w p g s) (q : Pc) (hk : q.kind < 0 ∨ 6 < q.kind) :
    Calls Try.prog 11 #[.pointer (some ⟨p, 0, none⟩), .agg q.vals] w fun e w' => e = .returned (.tuple #[]) ∧ WPuts p g (putW s q) w w' := by
  have e1 : putW s q = s := by
    unfold putW Pc.bytes
    rw [if_neg (by omega), if_neg (by omega), if_neg (by omega), if_neg (by omega), if_neg (by omega), if_neg (by omega), if_neg (by omega), stepW_nil]
  rw [e1]
  clear e1
  obtain ⟨kind, n, size, x, is, t⟩ := q
  have hk' : kind < 0 ∨ 6 < kind := hk
  have H := hide h
  have h0 : (kind == 0) = false := by simp; omega
  have h1 : (kind == 1) = false := by simp; omega
  have h2 : (kind == 2) = false := by simp; omega
  have h3 : (kind == 3) = false := by simp; omega
  have h4 : (kind == 4) = false := by simp; omega
  have h5 : (kind == 5) = false := by simp; omega
  have h6 : (kind == 6) = false := by simp; omega
  clear h hk hk'
  simp only [Pc.vals]
  go_enter Try.func11, Try.ntmps11
  go_wp2
  go_end0
  exact ⟨rfl, g, (unhide H).alloc _, (Fr.refl _ _).alloc _, .inl rfl⟩

/-- The law's put. -/
theorem lput_any {w : World} {p g : Nat} {s : Option (List UInt8)} (h : WSt w p g s) (hfit : ∀ bs, s = some bs → bs.length + 65537 ≤ 140737488355328) (q : Pc) (hn : q.n ≤ 9223372036854775807) :
    Calls Try.prog 11 #[.pointer (some ⟨p, 0, none⟩), .agg q.vals] w fun e w' => e = .returned (.tuple #[]) ∧ WPuts p g (putW s q) w w' := by
  by_cases hk : q.kind < 0 ∨ 6 < q.kind
  · exact lput_not h q hk
  have hk2 : q.kind = 0 ∨ q.kind = 1 ∨ q.kind = 2 ∨ q.kind = 3 ∨ q.kind = 4 ∨ q.kind = 5 ∨ q.kind = 6 := by omega
  rcases hk2 with hk2 | hk2 | hk2 | hk2 | hk2 | hk2 | hk2
  · exact lput0 h hfit q hn hk2
  · exact lput1 h hfit q hn hk2
  · exact lput2 h hfit q hn hk2
  · exact lput3 h hfit q hn hk2
  · exact lput4 h hfit q hn hk2
  · exact lput5 h hfit q hn hk2
  · exact lput6 h hfit q hn hk2

end Go.Proofs.Ytdbmojiplfkniaa
