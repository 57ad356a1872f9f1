/- The document's writer: Text, Fixed; the law's own function model. -/
import Derived.Test.YtdbmojiplfkniaaH2
namespace Go.Proofs.Ytdbmojiplfkniaa
open Go.RowKit

section
variable {w : World} {p g : Nat} {s : Option (List UInt8)}

theorem yText (h : YSt w p g s) (t : ByteArray) (hsz : t.size ≤ 1048576) (hfit : ∀ bs, s = some bs → t.size ≤ 65535 → bs.length + 2 + t.size ≤ 140737488355328) :
    Calls Try.prog 45 #[.pointer (some ⟨p, 0, none⟩), .string t] w fun e w' => e = .returned (.tuple #[]) ∧ YPuts p g (stepW s (wText t)) w w' := by
  obtain ⟨i0, hi, hz0, hz1, hz2⟩ := info_parts Try.info5
  have H := hide h
  have HFit := hide hfit
  clear h hfit
  have hwm : IntKind.u64.wrap (t.size : Int) = t.size := wrap_u64_small t.size (by omega)
  have hdl : t.data.toList.length = t.size := rfl
  have HDL := hide hdl
  obtain ⟨ok, hok⟩ : ∃ ok, decide ((t.size : Int) ≤ 65535) = ok := ⟨_, rfl⟩
  obtain ⟨st, Hst⟩ : ∃ st, Hid (stepW s (if ok = true then some (digs t.size 2 ++ t.data.toList) else none) = st) := ⟨_, rfl⟩
  rw [show stepW s (wText t) = st by
    rw [← unhide Hst, ← hok]; unfold wText
    by_cases hs : t.size ≤ 65535
    · rw [if_pos hs, if_pos (by simp; omega)]
    · rw [if_neg hs, if_neg (by simp; omega)]]
  have HOK := hide (show ok = true → t.size ≤ 65535 from fun e => by rw [e] at hok; simp at hok; omega)
  clear hdl
  go_enter Try.func45, Try.ntmps45
  go_wp2_with fail
  refine (ydigits t.size 2 (by omega) _).mono ?_
  rintro e w1 ⟨v, gv, rfl, hrow, hF, hgv⟩
  obtain ⟨ao, cap, rfl, _⟩ := hrow.shape
  have HD := hide (And.intro hrow hF)
  have HG := hide hgv
  clear hrow hF hgv
  go_wp2_with (at_builtin; refine wpList_append_row _ rfl (.tmp 9) (.tmp 10) 27 9 rfl 5 i0 Try.underlying27 hi hz0 hz1 hz2 (ao := ao) (cap := cap) (g := gv) (bs := digs t.size 2) rfl ?hrow _ t.data.toList rfl ?hsrc ?hfit ?next)
  case hrow => exact (unhide HD).1
  case hsrc => exact src_string Try.underlying9 t _
  case hfit => rw [digs_length, unhide HDL]; omega
  case next =>
    intro ao' cap' w2 g2 hr hf hg
    have HR := hide (And.intro hr ((unhide HD).2.trans hf (fun i hi t => by have := unhide HG; omega)))
    clear hr hf hg HD HG
    go_wp2_with fail
    refine (yput_any ((unhide H).frame (unhide HR).2 (fun t => t) (fun t => t)) ok _ (digs t.size 2 ++ t.data.toList) (by have := (unhide HR).1.lies; exact this) (fun e bs hbs => by have := unhide HFit bs hbs (unhide HOK e); rw [List.length_append, digs_length, unhide HDL]; omega)).mono ?_
    rw [unhide Hst]
    rintro e w3 ⟨rfl, hP⟩
    have HP := hide (YPuts.later (unhide HR).2 hP)
    clear hP
    go_wp2
    go_end0
    exact ⟨rfl, unhide HP⟩

theorem yFixed (h : YSt w p g s) (t : ByteArray) (size : Int) (hfit : ∀ bs, s = some bs → t.size ≤ 65535 → bs.length + 2 + t.size ≤ 140737488355328) :
    Calls Try.prog 46 #[.pointer (some ⟨p, 0, none⟩), .string t, .int .i64 size] w fun e w' => e = .returned (.tuple #[]) ∧ YPuts p g (stepW s (wFixed t size)) w w' := by
  have H := hide h
  have HFit := hide hfit
  clear h hfit
  have hdl : t.data.toList.length = t.size := rfl
  have HDL := hide hdl
  obtain ⟨c, w1, hcv, HW1⟩ : ∃ c w1, (convert 9 27 (.string t)).run Try.prog w = .ok (.slice (some ⟨w.heap.size, 0, none⟩) t.size c) w1 ∧ Hid (Lies w1 (.slice (some ⟨w.heap.size, 0, none⟩) t.size c) t.data.toList ∧ Fr (fun _ => False) w w1) := by
    refine ⟨_, _, run_bytes_of_string (P := Try.prog) w 9 27 5 t Try.underlying9 Try.underlying27 Try.underlying5, ⟨_, _, rfl, fun _ => ⟨_, 0, rfl, fun j hj => ?_⟩⟩, (Fr.refl _ w).drew.alloc _⟩
    rw [Nat.zero_add]
    have hj2 : j < t.data.size := by simpa using hj
    have hb : ∀ o, (w.drew.alloc o).heap[w.heap.size]? = some o := fun o => by show (w.heap.push o)[w.heap.size]? = _; simp
    unfold World.cell?
    simp only [hb]
    unfold bytesRow
    rw [Array.getElem?_append_left (by simpa using hj2)]
    simp
    exact ⟨_, Array.getElem?_eq_getElem hj2, rfl⟩
  obtain ⟨st, Hst⟩ : ∃ st, Hid (stepW s (wFixed t size) = st) := ⟨_, rfl⟩
  rw [unhide Hst]
  clear hdl
  by_cases hc : 0 ≤ size ∧ size ≤ 65535 ∧ (t.size : Int) = size
  · have d1 : decide (0 ≤ size) = true := by simp; omega
    have d2 : decide (size ≤ 65535) = true := by simp; omega
    have d3 : ((t.size : Int) == size) = true := by simp; omega
    have hst : st = stepW s (some t.data.toList) := by rw [← unhide Hst]; unfold wFixed; rw [if_pos hc]
    have HC := hide hc
    have HS := hide hst
    clear hc hst
    go_enter Try.func46, Try.ntmps46
    go_wp2_with fail
    refine (yput_any ((unhide H).frame (unhide HW1).2 (fun t => t) (fun t => t)) true _ t.data.toList (unhide HW1).1 (fun e bs hbs => by have := unhide HFit bs hbs (by have := unhide HC; omega); rw [unhide HDL]; omega)).mono ?_
    rintro e w3 ⟨rfl, hP⟩
    have hP2 : YPuts p g st w1 w3 := by rw [unhide HS]; exact hP
    have HP := hide (YPuts.later (unhide HW1).2 hP2)
    clear hP2
    clear hP
    go_wp2
    go_end0
    exact ⟨rfl, unhide HP⟩
  have hst : st = none := by rw [← unhide Hst]; unfold wFixed; rw [if_neg hc]; cases s <;> rfl
  subst hst
  by_cases h1 : 0 ≤ size
  · have d1 : decide (0 ≤ size) = true := by simp; omega
    by_cases h2 : size ≤ 65535
    · have d2 : decide (size ≤ 65535) = true := by simp; omega
      have d3 : ((t.size : Int) == size) = false := by simp; omega
      clear hc
      go_enter Try.func46, Try.ntmps46
      go_wp2_with fail
      refine (yput_no ((unhide H).frame (unhide HW1).2 (fun t => t) (fun t => t)) _).mono ?_
      rintro e w3 ⟨rfl, hP⟩
      have HP := hide (YPuts.later (unhide HW1).2 hP)
      clear hP
      go_wp2
      go_end0
      exact ⟨rfl, unhide HP⟩
    · have d2 : decide (size ≤ 65535) = false := by simp; omega
      clear hc
      go_enter Try.func46, Try.ntmps46
      go_wp2_with fail
      refine (yput_no ((unhide H).frame (unhide HW1).2 (fun t => t) (fun t => t)) _).mono ?_
      rintro e w3 ⟨rfl, hP⟩
      have HP := hide (YPuts.later (unhide HW1).2 hP)
      clear hP
      go_wp2
      go_end0
      exact ⟨rfl, unhide HP⟩
  · have d1 : decide (0 ≤ size) = false := by simp; omega
    clear hc
    go_enter Try.func46, Try.ntmps46
    go_wp2_with fail
    refine (yput_no ((unhide H).frame (unhide HW1).2 (fun t => t) (fun t => t)) _).mono ?_
    rintro e w3 ⟨rfl, hP⟩
    have HP := hide (YPuts.later (unhide HW1).2 hP)
    clear hP
    go_wp2
    go_end0
    exact ⟨rfl, unhide HP⟩

theorem ylpf0 (h : YSt w p g s) (q : Pc) (hfit : ∀ bs, s = some bs → bs.length + 8 ≤ 140737488355328 ∧ ((q.kind = 4 ∨ q.kind = 5) → q.s.size ≤ 65535 → bs.length + 2 + q.s.size ≤ 140737488355328)) (hn : q.n ≤ 9223372036854775807) (hz : q.s.size ≤ 1048576) (hk : q.kind = 0) :
    Calls Try.prog 12 #[.pointer (some ⟨p, 0, none⟩), .agg q.vals] w fun e w' => e = .returned (.tuple #[]) ∧ YPuts p g (putW s q) w w' := by
  obtain ⟨kind, n, size, x, is, t⟩ := q
  have hk' : kind = 0 := hk
  subst hk'
  have H := hide h
  have HN := hide (And.intro hn hz)
  have HQ := hide hfit
  have hlt := h.lt
  clear h hk hn hfit hz
  rw [show putW s ⟨0, n, size, x, is, t⟩ = stepW s (wNumber n size) from rfl]
  simp only [Pc.vals]
  have HF := hide ((Fr.refl (fun _ => False) w).alloc (.cells #[.int .i64 0, .int .i64 n, .int .i64 size, .float .f64 x, .bool is, .string t] 34))
  go_enter Try.func12, Try.ntmps12
  go_wp2_with fail
  refine (yNumber ((unhide H).alloc _) (fun bs h => (unhide HQ bs h).1) n size (unhide HN).1).mono ?_
  rintro e w1 ⟨rfl, hP⟩
  have HP := hide (YPuts.later (unhide HF) hP)
  clear hP HF H
  go_wp2
  go_end0
  exact ⟨rfl, unhide HP⟩

theorem ylpf1 (h : YSt w p g s) (q : Pc) (hfit : ∀ bs, s = some bs → bs.length + 8 ≤ 140737488355328 ∧ ((q.kind = 4 ∨ q.kind = 5) → q.s.size ≤ 65535 → bs.length + 2 + q.s.size ≤ 140737488355328)) (hn : q.n ≤ 9223372036854775807) (hz : q.s.size ≤ 1048576) (hk : q.kind = 1) :
    Calls Try.prog 12 #[.pointer (some ⟨p, 0, none⟩), .agg q.vals] w fun e w' => e = .returned (.tuple #[]) ∧ YPuts p g (putW s q) w w' := by
  obtain ⟨kind, n, size, x, is, t⟩ := q
  have hk' : kind = 1 := hk
  subst hk'
  have H := hide h
  have HN := hide (And.intro hn hz)
  have HQ := hide hfit
  have hlt := h.lt
  clear h hk hn hfit hz
  rw [show putW s ⟨1, n, size, x, is, t⟩ = stepW s (wInt n) from rfl]
  simp only [Pc.vals]
  have HF := hide ((Fr.refl (fun _ => False) w).alloc (.cells #[.int .i64 1, .int .i64 n, .int .i64 size, .float .f64 x, .bool is, .string t] 34))
  go_enter Try.func12, Try.ntmps12
  go_wp2_with fail
  refine (yInt ((unhide H).alloc _) (fun bs h => (unhide HQ bs h).1) n).mono ?_
  rintro e w1 ⟨rfl, hP⟩
  have HP := hide (YPuts.later (unhide HF) hP)
  clear hP HF H
  go_wp2
  go_end0
  exact ⟨rfl, unhide HP⟩

theorem ylpf2 (h : YSt w p g s) (q : Pc) (hfit : ∀ bs, s = some bs → bs.length + 8 ≤ 140737488355328 ∧ ((q.kind = 4 ∨ q.kind = 5) → q.s.size ≤ 65535 → bs.length + 2 + q.s.size ≤ 140737488355328)) (hn : q.n ≤ 9223372036854775807) (hz : q.s.size ≤ 1048576) (hk : q.kind = 2) :
    Calls Try.prog 12 #[.pointer (some ⟨p, 0, none⟩), .agg q.vals] w fun e w' => e = .returned (.tuple #[]) ∧ YPuts p g (putW s q) w w' := by
  obtain ⟨kind, n, size, x, is, t⟩ := q
  have hk' : kind = 2 := hk
  subst hk'
  have H := hide h
  have HN := hide (And.intro hn hz)
  have HQ := hide hfit
  have hlt := h.lt
  clear h hk hn hfit hz
  rw [show putW s ⟨2, n, size, x, is, t⟩ = stepW s (wFloat x) from rfl]
  simp only [Pc.vals]
  have HF := hide ((Fr.refl (fun _ => False) w).alloc (.cells #[.int .i64 2, .int .i64 n, .int .i64 size, .float .f64 x, .bool is, .string t] 34))
  go_enter Try.func12, Try.ntmps12
  go_wp2_with fail
  refine (yFloat ((unhide H).alloc _) (fun bs h => (unhide HQ bs h).1) x).mono ?_
  rintro e w1 ⟨rfl, hP⟩
  have HP := hide (YPuts.later (unhide HF) hP)
  clear hP HF H
  go_wp2
  go_end0
  exact ⟨rfl, unhide HP⟩

theorem ylpf3 (h : YSt w p g s) (q : Pc) (hfit : ∀ bs, s = some bs → bs.length + 8 ≤ 140737488355328 ∧ ((q.kind = 4 ∨ q.kind = 5) → q.s.size ≤ 65535 → bs.length + 2 + q.s.size ≤ 140737488355328)) (hn : q.n ≤ 9223372036854775807) (hz : q.s.size ≤ 1048576) (hk : q.kind = 3) :
    Calls Try.prog 12 #[.pointer (some ⟨p, 0, none⟩), .agg q.vals] w fun e w' => e = .returned (.tuple #[]) ∧ YPuts p g (putW s q) w w' := by
  obtain ⟨kind, n, size, x, is, t⟩ := q
  have hk' : kind = 3 := hk
  subst hk'
  have H := hide h
  have HN := hide (And.intro hn hz)
  have HQ := hide hfit
  have hlt := h.lt
  clear h hk hn hfit hz
  rw [show putW s ⟨3, n, size, x, is, t⟩ = stepW s (wBool is) from rfl]
  simp only [Pc.vals]
  have HF := hide ((Fr.refl (fun _ => False) w).alloc (.cells #[.int .i64 3, .int .i64 n, .int .i64 size, .float .f64 x, .bool is, .string t] 34))
  go_enter Try.func12, Try.ntmps12
  go_wp2_with fail
  refine (yBool ((unhide H).alloc _) (fun bs h => (unhide HQ bs h).1) is).mono ?_
  rintro e w1 ⟨rfl, hP⟩
  have HP := hide (YPuts.later (unhide HF) hP)
  clear hP HF H
  go_wp2
  go_end0
  exact ⟨rfl, unhide HP⟩

theorem ylpf4 (h : YSt w p g s) (q : Pc) (hfit : ∀ bs, s = some bs → bs.length + 8 ≤ 140737488355328 ∧ ((q.kind = 4 ∨ q.kind = 5) → q.s.size ≤ 65535 → bs.length + 2 + q.s.size ≤ 140737488355328)) (hn : q.n ≤ 9223372036854775807) (hz : q.s.size ≤ 1048576) (hk : q.kind = 4) :
    Calls Try.prog 12 #[.pointer (some ⟨p, 0, none⟩), .agg q.vals] w fun e w' => e = .returned (.tuple #[]) ∧ YPuts p g (putW s q) w w' := by
  obtain ⟨kind, n, size, x, is, t⟩ := q
  have hk' : kind = 4 := hk
  subst hk'
  have H := hide h
  have HN := hide (And.intro hn hz)
  have HQ := hide hfit
  have hlt := h.lt
  clear h hk hn hfit hz
  rw [show putW s ⟨4, n, size, x, is, t⟩ = stepW s (wText t) from rfl]
  simp only [Pc.vals]
  have HF := hide ((Fr.refl (fun _ => False) w).alloc (.cells #[.int .i64 4, .int .i64 n, .int .i64 size, .float .f64 x, .bool is, .string t] 34))
  go_enter Try.func12, Try.ntmps12
  go_wp2_with fail
  refine (yText ((unhide H).alloc _) t (unhide HN).2 (fun bs h => (unhide HQ bs h).2 (by simp))).mono ?_
  rintro e w1 ⟨rfl, hP⟩
  have HP := hide (YPuts.later (unhide HF) hP)
  clear hP HF H
  go_wp2
  go_end0
  exact ⟨rfl, unhide HP⟩

theorem ylpf5 (h : YSt w p g s) (q : Pc) (hfit : ∀ bs, s = some bs → bs.length + 8 ≤ 140737488355328 ∧ ((q.kind = 4 ∨ q.kind = 5) → q.s.size ≤ 65535 → bs.length + 2 + q.s.size ≤ 140737488355328)) (hn : q.n ≤ 9223372036854775807) (hz : q.s.size ≤ 1048576) (hk : q.kind = 5) :
    Calls Try.prog 12 #[.pointer (some ⟨p, 0, none⟩), .agg q.vals] w fun e w' => e = .returned (.tuple #[]) ∧ YPuts p g (putW s q) w w' := by
  obtain ⟨kind, n, size, x, is, t⟩ := q
  have hk' : kind = 5 := hk
  subst hk'
  have H := hide h
  have HN := hide (And.intro hn hz)
  have HQ := hide hfit
  have hlt := h.lt
  clear h hk hn hfit hz
  rw [show putW s ⟨5, n, size, x, is, t⟩ = stepW s (wFixed t size) from rfl]
  simp only [Pc.vals]
  have HF := hide ((Fr.refl (fun _ => False) w).alloc (.cells #[.int .i64 5, .int .i64 n, .int .i64 size, .float .f64 x, .bool is, .string t] 34))
  go_enter Try.func12, Try.ntmps12
  go_wp2_with fail
  refine (yFixed ((unhide H).alloc _) t size (fun bs h => (unhide HQ bs h).2 (by simp))).mono ?_
  rintro e w1 ⟨rfl, hP⟩
  have HP := hide (YPuts.later (unhide HF) hP)
  clear hP HF H
  go_wp2
  go_end0
  exact ⟨rfl, unhide HP⟩

theorem ylpf6 (h : YSt w p g s) (q : Pc) (hfit : ∀ bs, s = some bs → bs.length + 8 ≤ 140737488355328 ∧ ((q.kind = 4 ∨ q.kind = 5) → q.s.size ≤ 65535 → bs.length + 2 + q.s.size ≤ 140737488355328)) (hn : q.n ≤ 9223372036854775807) (hz : q.s.size ≤ 1048576) (hk : q.kind = 6) :
    Calls Try.prog 12 #[.pointer (some ⟨p, 0, none⟩), .agg q.vals] w fun e w' => e = .returned (.tuple #[]) ∧ YPuts p g (putW s q) w w' := by
  obtain ⟨kind, n, size, x, is, t⟩ := q
  have hk' : kind = 6 := hk
  subst hk'
  have H := hide h
  have HN := hide (And.intro hn hz)
  have HQ := hide hfit
  have hlt := h.lt
  clear h hk hn hfit hz
  rw [show putW s ⟨6, n, size, x, is, t⟩ = stepW s (wCount n) from rfl]
  simp only [Pc.vals]
  have HF := hide ((Fr.refl (fun _ => False) w).alloc (.cells #[.int .i64 6, .int .i64 n, .int .i64 size, .float .f64 x, .bool is, .string t] 34))
  go_enter Try.func12, Try.ntmps12
  go_wp2_with fail
  refine (yCount ((unhide H).alloc _) (fun bs h => (unhide HQ bs h).1) n (unhide HN).1).mono ?_
  rintro e w1 ⟨rfl, hP⟩
  have HP := hide (YPuts.later (unhide HF) hP)
  clear hP HF H
  go_wp2
  go_end0
  exact ⟨rfl, unhide HP⟩

theorem ylpf_not (h : YSt w p g s) (q : Pc) (hk : q.kind < 0 ∨ 6 < q.kind) :
    Calls Try.prog 12 #[.pointer (some ⟨p, 0, none⟩), .agg q.vals] w fun e w' => e = .returned (.tuple #[]) ∧ YPuts p g (putW s q) w w' := by
  have e1 : putW s q = s := by
    unfold putW Pc.bytes
    rw [if_neg (by omega), if_neg (by omega), if_neg (by omega), if_neg (by omega), if_neg (by omega), if_neg (by omega), if_neg (by omega), stepW_nil]
  rw [e1]
  clear e1
  obtain ⟨kind, n, size, x, is, t⟩ := q
  have hk' : kind < 0 ∨ 6 < kind := hk
  have H := hide h
  have h0 : (kind == 0) = false := by simp; omega
  have h1 : (kind == 1) = false := by simp; omega
  have h2 : (kind == 2) = false := by simp; omega
  have h3 : (kind == 3) = false := by simp; omega
  have h4 : (kind == 4) = false := by simp; omega
  have h5 : (kind == 5) = false := by simp; omega
  have h6 : (kind == 6) = false := by simp; omega
  clear h hk hk'
  simp only [Pc.vals]
  go_enter Try.func12, Try.ntmps12
  go_wp2
  go_end0
  exact ⟨rfl, g, (unhide H).alloc _, (Fr.refl _ _).alloc _, .inl rfl⟩

/-- The law's model. -/
theorem model_any (h : YSt w p g s) (q : Pc) (hfit : ∀ bs, s = some bs → bs.length + 8 ≤ 140737488355328 ∧ ((q.kind = 4 ∨ q.kind = 5) → q.s.size ≤ 65535 → bs.length + 2 + q.s.size ≤ 140737488355328)) (hn : q.n ≤ 9223372036854775807) (hz : q.s.size ≤ 1048576) :
    Calls Try.prog 12 #[.pointer (some ⟨p, 0, none⟩), .agg q.vals] w fun e w' => e = .returned (.tuple #[]) ∧ YPuts p g (putW s q) w w' := by
  by_cases hk : q.kind < 0 ∨ 6 < q.kind
  · exact ylpf_not h q hk
  have hk2 : q.kind = 0 ∨ q.kind = 1 ∨ q.kind = 2 ∨ q.kind = 3 ∨ q.kind = 4 ∨ q.kind = 5 ∨ q.kind = 6 := by omega
  rcases hk2 with hk2 | hk2 | hk2 | hk2 | hk2 | hk2 | hk2
  · exact ylpf0 h q hfit hn hz hk2
  · exact ylpf1 h q hfit hn hz hk2
  · exact ylpf2 h q hfit hn hz hk2
  · exact ylpf3 h q hfit hn hz hk2
  · exact ylpf4 h q hfit hn hz hk2
  · exact ylpf5 h q hfit hn hz hk2
  · exact ylpf6 h q hfit hn hz hk2

end
end Go.Proofs.Ytdbmojiplfkniaa
