/- The law's own function put once more, with a finer bound. -/
import Derived.Test.YtdbmojiplfkniaaC2
namespace Go.Proofs.Ytdbmojiplfkniaa
open Go.RowKit

theorem lpf0 {w : World} {p g : Nat} {s : Option (List UInt8)} (h : WSt w p g s) (q : Pc) (hfit : ∀ bs, s = some bs → bs.length + 8 ≤ 140737488355328 ∧ ((q.kind = 4 ∨ q.kind = 5) → q.s.size ≤ 65535 → bs.length + 2 + q.s.size ≤ 140737488355328)) (hn : q.n ≤ 9223372036854775807) (hk : q.kind = 0) :
    Calls Try.prog 11 #[.pointer (some ⟨p, 0, none⟩), .agg q.vals] w fun e w' => e = .returned (.tuple #[]) ∧ WPuts p g (putW s q) w w' := by
  obtain ⟨kind, n, size, x, is, t⟩ := q
  have hk' : kind = 0 := hk
  subst hk'
  have H := hide h
  have HN := hide hn
  have HQ := hide hfit
  have hlt := h.lt
  clear h hk hn hfit
  rw [show putW s ⟨0, n, size, x, is, t⟩ = stepW s (wNumber n size) from rfl]
  simp only [Pc.vals]
  have hF0 : Fr (fun _ => False) w (w.alloc (.cells #[.int .i64 0, .int .i64 n, .int .i64 size, .float .f64 x, .bool is, .string t] 34)) := (Fr.refl _ _).alloc _
  have HF := hide hF0
  clear hF0
  go_enter Try.func11, Try.ntmps11
  go_wp2_with fail
  refine (wnumber_any ((unhide H).alloc _) (fun bs h => (unhide HQ bs h).1) n size (unhide HN)).mono ?_
  rintro e w1 ⟨rfl, hP⟩
  have HP := hide (WPuts.later (unhide HF) hP)
  clear hP HF H
  go_wp2
  go_end0
  exact ⟨rfl, unhide HP⟩

theorem lpf1 {w : World} {p g : Nat} {s : Option (List UInt8)} (h : WSt w p g s) (q : Pc) (hfit : ∀ bs, s = some bs → bs.length + 8 ≤ 140737488355328 ∧ ((q.kind = 4 ∨ q.kind = 5) → q.s.size ≤ 65535 → bs.length + 2 + q.s.size ≤ 140737488355328)) (hn : q.n ≤ 9223372036854775807) (hk : q.kind = 1) :
    Calls Try.prog 11 #[.pointer (some ⟨p, 0, none⟩), .agg q.vals] w fun e w' => e = .returned (.tuple #[]) ∧ WPuts p g (putW s q) w w' := by
  obtain ⟨kind, n, size, x, is, t⟩ := q
  have hk' : kind = 1 := hk
  subst hk'
  have H := hide h
  have HN := hide hn
  have HQ := hide hfit
  have hlt := h.lt
  clear h hk hn hfit
  rw [show putW s ⟨1, n, size, x, is, t⟩ = stepW s (wInt n) from rfl]
  simp only [Pc.vals]
  have hF0 : Fr (fun _ => False) w (w.alloc (.cells #[.int .i64 1, .int .i64 n, .int .i64 size, .float .f64 x, .bool is, .string t] 34)) := (Fr.refl _ _).alloc _
  have HF := hide hF0
  clear hF0
  go_enter Try.func11, Try.ntmps11
  go_wp2_with fail
  refine (wint_any ((unhide H).alloc _) (fun bs h => (unhide HQ bs h).1) n).mono ?_
  rintro e w1 ⟨rfl, hP⟩
  have HP := hide (WPuts.later (unhide HF) hP)
  clear hP HF H
  go_wp2
  go_end0
  exact ⟨rfl, unhide HP⟩

theorem lpf2 {w : World} {p g : Nat} {s : Option (List UInt8)} (h : WSt w p g s) (q : Pc) (hfit : ∀ bs, s = some bs → bs.length + 8 ≤ 140737488355328 ∧ ((q.kind = 4 ∨ q.kind = 5) → q.s.size ≤ 65535 → bs.length + 2 + q.s.size ≤ 140737488355328)) (hn : q.n ≤ 9223372036854775807) (hk : q.kind = 2) :
    Calls Try.prog 11 #[.pointer (some ⟨p, 0, none⟩), .agg q.vals] w fun e w' => e = .returned (.tuple #[]) ∧ WPuts p g (putW s q) w w' := by
  obtain ⟨kind, n, size, x, is, t⟩ := q
  have hk' : kind = 2 := hk
  subst hk'
  have H := hide h
  have HN := hide hn
  have HQ := hide hfit
  have hlt := h.lt
  clear h hk hn hfit
  rw [show putW s ⟨2, n, size, x, is, t⟩ = stepW s (wFloat x) from rfl]
  simp only [Pc.vals]
  have hF0 : Fr (fun _ => False) w (w.alloc (.cells #[.int .i64 2, .int .i64 n, .int .i64 size, .float .f64 x, .bool is, .string t] 34)) := (Fr.refl _ _).alloc _
  have HF := hide hF0
  clear hF0
  go_enter Try.func11, Try.ntmps11
  go_wp2_with fail
  refine (wfloat_any ((unhide H).alloc _) (fun bs h => (unhide HQ bs h).1) x).mono ?_
  rintro e w1 ⟨rfl, hP⟩
  have HP := hide (WPuts.later (unhide HF) hP)
  clear hP HF H
  go_wp2
  go_end0
  exact ⟨rfl, unhide HP⟩

theorem lpf3 {w : World} {p g : Nat} {s : Option (List UInt8)} (h : WSt w p g s) (q : Pc) (hfit : ∀ bs, s = some bs → bs.length + 8 ≤ 140737488355328 ∧ ((q.kind = 4 ∨ q.kind = 5) → q.s.size ≤ 65535 → bs.length + 2 + q.s.size ≤ 140737488355328)) (hn : q.n ≤ 9223372036854775807) (hk : q.kind = 3) :
    Calls Try.prog 11 #[.pointer (some ⟨p, 0, none⟩), .agg q.vals] w fun e w' => e = .returned (.tuple #[]) ∧ WPuts p g (putW s q) w w' := by
  obtain ⟨kind, n, size, x, is, t⟩ := q
  have hk' : kind = 3 := hk
  subst hk'
  have H := hide h
  have HN := hide hn
  have HQ := hide hfit
  have hlt := h.lt
  clear h hk hn hfit
  rw [show putW s ⟨3, n, size, x, is, t⟩ = stepW s (wBool is) from rfl]
  simp only [Pc.vals]
  have hF0 : Fr (fun _ => False) w (w.alloc (.cells #[.int .i64 3, .int .i64 n, .int .i64 size, .float .f64 x, .bool is, .string t] 34)) := (Fr.refl _ _).alloc _
  have HF := hide hF0
  clear hF0
  go_enter Try.func11, Try.ntmps11
  go_wp2_with fail
  refine (wbool_any ((unhide H).alloc _) (fun bs h => by have := (unhide HQ bs h).1; omega) is).mono ?_
  rintro e w1 ⟨rfl, hP⟩
  have HP := hide (WPuts.later (unhide HF) hP)
  clear hP HF H
  go_wp2
  go_end0
  exact ⟨rfl, unhide HP⟩

theorem lpf4 {w : World} {p g : Nat} {s : Option (List UInt8)} (h : WSt w p g s) (q : Pc) (hfit : ∀ bs, s = some bs → bs.length + 8 ≤ 140737488355328 ∧ ((q.kind = 4 ∨ q.kind = 5) → q.s.size ≤ 65535 → bs.length + 2 + q.s.size ≤ 140737488355328)) (hn : q.n ≤ 9223372036854775807) (hk : q.kind = 4) :
    Calls Try.prog 11 #[.pointer (some ⟨p, 0, none⟩), .agg q.vals] w fun e w' => e = .returned (.tuple #[]) ∧ WPuts p g (putW s q) w w' := by
  obtain ⟨kind, n, size, x, is, t⟩ := q
  have hk' : kind = 4 := hk
  subst hk'
  have H := hide h
  have HN := hide hn
  have HQ := hide hfit
  have hlt := h.lt
  clear h hk hn hfit
  rw [show putW s ⟨4, n, size, x, is, t⟩ = stepW s (wText t) from rfl]
  simp only [Pc.vals]
  have hF0 : Fr (fun _ => False) w (w.alloc (.cells #[.int .i64 4, .int .i64 n, .int .i64 size, .float .f64 x, .bool is, .string t] 34)) := (Fr.refl _ _).alloc _
  have HF := hide hF0
  clear hF0
  go_enter Try.func11, Try.ntmps11
  go_wp2_with fail
  refine (wtext_any ((unhide H).alloc _) t (fun bs h h2 => (unhide HQ bs h).2 (by simp) h2)).mono ?_
  rintro e w1 ⟨rfl, hP⟩
  have HP := hide (WPuts.later (unhide HF) hP)
  clear hP HF H
  go_wp2
  go_end0
  exact ⟨rfl, unhide HP⟩

theorem lpf5 {w : World} {p g : Nat} {s : Option (List UInt8)} (h : WSt w p g s) (q : Pc) (hfit : ∀ bs, s = some bs → bs.length + 8 ≤ 140737488355328 ∧ ((q.kind = 4 ∨ q.kind = 5) → q.s.size ≤ 65535 → bs.length + 2 + q.s.size ≤ 140737488355328)) (hn : q.n ≤ 9223372036854775807) (hk : q.kind = 5) :
    Calls Try.prog 11 #[.pointer (some ⟨p, 0, none⟩), .agg q.vals] w fun e w' => e = .returned (.tuple #[]) ∧ WPuts p g (putW s q) w w' := by
  obtain ⟨kind, n, size, x, is, t⟩ := q
  have hk' : kind = 5 := hk
  subst hk'
  have H := hide h
  have HN := hide hn
  have HQ := hide hfit
  have hlt := h.lt
  clear h hk hn hfit
  rw [show putW s ⟨5, n, size, x, is, t⟩ = stepW s (wFixed t size) from rfl]
  simp only [Pc.vals]
  have hF0 : Fr (fun _ => False) w (w.alloc (.cells #[.int .i64 5, .int .i64 n, .int .i64 size, .float .f64 x, .bool is, .string t] 34)) := (Fr.refl _ _).alloc _
  have HF := hide hF0
  clear hF0
  go_enter Try.func11, Try.ntmps11
  go_wp2_with fail
  refine (wfixed_any ((unhide H).alloc _) t size (fun bs h h2 => by have := (unhide HQ bs h).2 (by simp) h2; have e : bs.length + 2 + t.size ≤ 140737488355328 := this; omega)).mono ?_
  rintro e w1 ⟨rfl, hP⟩
  have HP := hide (WPuts.later (unhide HF) hP)
  clear hP HF H
  go_wp2
  go_end0
  exact ⟨rfl, unhide HP⟩

theorem lpf6 {w : World} {p g : Nat} {s : Option (List UInt8)} (h : WSt w p g s) (q : Pc) (hfit : ∀ bs, s = some bs → bs.length + 8 ≤ 140737488355328 ∧ ((q.kind = 4 ∨ q.kind = 5) → q.s.size ≤ 65535 → bs.length + 2 + q.s.size ≤ 140737488355328)) (hn : q.n ≤ 9223372036854775807) (hk : q.kind = 6) :
    Calls Try.prog 11 #[.pointer (some ⟨p, 0, none⟩), .agg q.vals] w fun e w' => e = .returned (.tuple #[]) ∧ WPuts p g (putW s q) w w' := by
  obtain ⟨kind, n, size, x, is, t⟩ := q
  have hk' : kind = 6 := hk
  subst hk'
  have H := hide h
  have HN := hide hn
  have HQ := hide hfit
  have hlt := h.lt
  clear h hk hn hfit
  rw [show putW s ⟨6, n, size, x, is, t⟩ = stepW s (wCount n) from rfl]
  simp only [Pc.vals]
  have hF0 : Fr (fun _ => False) w (w.alloc (.cells #[.int .i64 6, .int .i64 n, .int .i64 size, .float .f64 x, .bool is, .string t] 34)) := (Fr.refl _ _).alloc _
  have HF := hide hF0
  clear hF0
  go_enter Try.func11, Try.ntmps11
  go_wp2_with fail
  refine (wcount_any ((unhide H).alloc _) (fun bs h => by have := (unhide HQ bs h).1; omega) n).mono ?_
  rintro e w1 ⟨rfl, hP⟩
  have HP := hide (WPuts.later (unhide HF) hP)
  clear hP HF H
  go_wp2
  go_end0
  exact ⟨rfl, unhide HP⟩

/-- The law's put. -/
theorem lpf_any {w : World} {p g : Nat} {s : Option (List UInt8)} (h : WSt w p g s) (q : Pc) (hfit : ∀ bs, s = some bs → bs.length + 8 ≤ 140737488355328 ∧ ((q.kind = 4 ∨ q.kind = 5) → q.s.size ≤ 65535 → bs.length + 2 + q.s.size ≤ 140737488355328)) (hn : q.n ≤ 9223372036854775807) :
    Calls Try.prog 11 #[.pointer (some ⟨p, 0, none⟩), .agg q.vals] w fun e w' => e = .returned (.tuple #[]) ∧ WPuts p g (putW s q) w w' := by
  by_cases hk : q.kind < 0 ∨ 6 < q.kind
  · exact lput_not h q hk
  have hk2 : q.kind = 0 ∨ q.kind = 1 ∨ q.kind = 2 ∨ q.kind = 3 ∨ q.kind = 4 ∨ q.kind = 5 ∨ q.kind = 6 := by omega
  rcases hk2 with hk2 | hk2 | hk2 | hk2 | hk2 | hk2 | hk2
  · exact lpf0 h q hfit hn hk2
  · exact lpf1 h q hfit hn hk2
  · exact lpf2 h q hfit hn hk2
  · exact lpf3 h q hfit hn hk2
  · exact lpf4 h q hfit hn hk2
  · exact lpf5 h q hfit hn hk2
  · exact lpf6 h q hfit hn hk2

end Go.Proofs.Ytdbmojiplfkniaa
