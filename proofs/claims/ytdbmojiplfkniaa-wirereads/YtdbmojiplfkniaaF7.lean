/- The law's own function takes: a piece on both sides, the same answers. -/
import Derived.Test.YtdbmojiplfkniaaF6
namespace Go.Proofs.Ytdbmojiplfkniaa
open Go.RowKit

/-- The program's reader and the document's side by side, in one state. -/
structure RX (w : World) (p g xp : Nat) (ao : Option Addr) (cap : Nat) (bs : List UInt8) (s : RS) : Prop where
  r : s.At w p g bs
  x : XAt w xp ao cap bs s
  n1 : p ≠ xp
  n2 : g ≠ xp
  n3 : ∀ b off, ao = some ⟨b, off, none⟩ → 0 < bs.length → p ≠ b

section
variable {w : World} {p g xp : Nat} {ao : Option Addr} {cap : Nat} {bs : List UInt8} {s s' : RS}

theorem RX.alloc (h : RX w p g xp ao cap bs s) (o : Obj) : RX (w.alloc o) p g xp ao cap bs s := ⟨RAt.alloc h.r o, h.x.alloc o, h.n1, h.n2, h.n3⟩
theorem RX.drewN (h : RX w p g xp ao cap bs s) (n : Nat) : RX (w.drewN n) p g xp ao cap bs s := ⟨RAt.drewN h.r n, h.x.drewN n, h.n1, h.n2, h.n3⟩

theorem RX.xstay {w' : World} (h : RX w p g xp ao cap bs s) (hF : Fr (· = p) w w') : XAt w' xp ao cap bs s :=
  h.x.stay (hF.block xp h.x.lt (fun t => h.n1 t.symm)) fun b off e h0 hlt => hF.block b hlt (fun t => h.n3 b off e h0 t.symm)

theorem RX.both {w1 w2 : World} (h : RX w p g xp ao cap bs s) (hr : s'.At w1 p g bs) (hx : XAt w2 xp ao cap bs s') (hF : Fr (· = xp) w1 w2) : RX w2 p g xp ao cap bs s' :=
  ⟨RAt.stay hr (fun k hk hlt => hF.block k hlt (fun t => by
      rcases hk with rfl | rfl
      · exact h.n1 t
      · exact h.n2 t)), hx, h.n1, h.n2, h.n3⟩

/-- What a piece on both sides comes to. -/
def Both (p g xp : Nat) (ao : Option Addr) (cap : Nat) (bs : List UInt8) (w : World) (e : Ending) (w' : World) : Prop :=
  e = .returned (.bool true) ∧ (∃ s', RX w' p g xp ao cap bs s') ∧ Fr (fun k => k = p ∨ k = xp) w w'

theorem fr_both {w1 w2 w3 : World} (h0 : Fr (fun _ => False) w w1) (h1 : Fr (· = p) w1 w2) (h2 : Fr (· = xp) w2 w3) : Fr (fun k => k = p ∨ k = xp) w w3 :=
  ((h0.mono (T := fun k => k = p ∨ k = xp) (fun _ _ t => t.elim)).trans h1 (fun _ _ t => .inl t)).trans h2 (fun _ _ t => .inr t)

theorem stepR_shape {A : Type} (f : A → Value) (a0 : A) (s : RS) (o : Except Int (Value × Nat)) (h : ∀ v a', o = .ok (v, a') → ∃ n, v = f n) : ∃ r s', stepR s (f a0) o = (f r, s') := by
  rcases stepR_cases s (f a0) o with e | ⟨v, a', e1, e2⟩
  · exact ⟨a0, _, Prod.ext e rfl⟩
  · obtain ⟨n, hn⟩ := h v a' e1
    exact ⟨n, _, Prod.ext (e2.trans hn) rfl⟩

theorem takes0 (h : RX w p g xp ao cap bs s) (q : Pc) (hk : q.kind = 0) :
    Calls Try.prog 19 #[.pointer (some ⟨p, 0, none⟩), .pointer (some ⟨xp, 0, none⟩), .agg q.vals] w (Both p g xp ao cap bs w) := by
  obtain ⟨kind, n, size, x, is, t⟩ := q
  have hk' : kind = 0 := hk
  subst hk'
  obtain ⟨r, s', hst⟩ := stepR_shape (A := Int) (fun r => (.int .i64 r : Value)) (0 : Int) s (oNumber bs s.a size) (fun v a' e => oNumber_shape e)
  have H := hide h
  have HR := hide hst
  have hlt := h.r.lt
  have hltx := h.x.lt
  have hnx := h.n1
  have HF := hide ((Fr.refl (fun _ => False) w).alloc (.cells #[.int .i64 0, .int .i64 n, .int .i64 size, .float .f64 x, .bool is, .string t] 34))
  have H1 := hide (h.alloc (.cells #[.int .i64 0, .int .i64 n, .int .i64 size, .float .f64 x, .bool is, .string t] 34))
  clear h hk hst
  simp only [Pc.vals]
  go_enter Try.func19, Try.ntmps19
  go_wp2_with fail
  refine (rnumber_any (unhide H1).r size).mono ?_
  rw [unhide HR]
  rintro e w1 ⟨rfl, hS, hF1⟩
  have hb0 : w.heap.size ≠ p := by omega
  have m0 := (hF1.cell (a := ⟨w.heap.size, 2, none⟩) (by simp) hb0).trans (show (w.alloc (.cells #[.int .i64 0, .int .i64 n, .int .i64 size, .float .f64 x, .bool is, .string t] 34)).cell? ⟨w.heap.size, 2, none⟩ = some (.int .i64 size) by simp)
  have HS := hide (And.intro hS (And.intro ((unhide H1).xstay hF1) hF1))
  clear hS hF1
  go_wp2_with fail
  refine (xNumber (unhide HS).2.1 size).mono ?_
  rw [unhide HR]
  rintro e w2 ⟨rfl, hX2, hF2⟩
  have HE := hide (And.intro ((unhide H).both (unhide HS).1 hX2 hF2) (fr_both (unhide HF) (unhide HS).2.2 hF2))
  clear hX2 hF2 HS H H1 HF HR
  go_wp2
  go_ret
  exact ⟨by simp, ⟨s', (unhide HE).1⟩, (unhide HE).2⟩

theorem takes1 (h : RX w p g xp ao cap bs s) (q : Pc) (hk : q.kind = 1) :
    Calls Try.prog 19 #[.pointer (some ⟨p, 0, none⟩), .pointer (some ⟨xp, 0, none⟩), .agg q.vals] w (Both p g xp ao cap bs w) := by
  obtain ⟨kind, n, size, x, is, t⟩ := q
  have hk' : kind = 1 := hk
  subst hk'
  obtain ⟨r, s', hst⟩ := stepR_shape (A := Int) (fun r => (.int .i64 r : Value)) (0 : Int) s (oInt bs s.a) (fun v a' e => oInt_shape e)
  have H := hide h
  have HR := hide hst
  have hlt := h.r.lt
  have hltx := h.x.lt
  have hnx := h.n1
  have HF := hide ((Fr.refl (fun _ => False) w).alloc (.cells #[.int .i64 1, .int .i64 n, .int .i64 size, .float .f64 x, .bool is, .string t] 34))
  have H1 := hide (h.alloc (.cells #[.int .i64 1, .int .i64 n, .int .i64 size, .float .f64 x, .bool is, .string t] 34))
  clear h hk hst
  simp only [Pc.vals]
  go_enter Try.func19, Try.ntmps19
  go_wp2_with fail
  refine (rint_any (unhide H1).r).mono ?_
  rw [unhide HR]
  rintro e w1 ⟨rfl, hS, hF1⟩
  have HS := hide (And.intro hS (And.intro ((unhide H1).xstay hF1) hF1))
  clear hS hF1
  go_wp2_with fail
  refine (xInt (unhide HS).2.1).mono ?_
  rw [unhide HR]
  rintro e w2 ⟨rfl, hX2, hF2⟩
  have HE := hide (And.intro ((unhide H).both (unhide HS).1 hX2 hF2) (fr_both (unhide HF) (unhide HS).2.2 hF2))
  clear hX2 hF2 HS H H1 HF HR
  go_wp2
  go_ret
  exact ⟨by simp, ⟨s', (unhide HE).1⟩, (unhide HE).2⟩

theorem takes2 (h : RX w p g xp ao cap bs s) (q : Pc) (hk : q.kind = 2) :
    Calls Try.prog 19 #[.pointer (some ⟨p, 0, none⟩), .pointer (some ⟨xp, 0, none⟩), .agg q.vals] w (Both p g xp ao cap bs w) := by
  obtain ⟨kind, n, size, x, is, t⟩ := q
  have hk' : kind = 2 := hk
  subst hk'
  obtain ⟨r, s', hst⟩ := stepR_shape (A := Nat) (fun r => (.float .f64 r : Value)) (0 : Nat) s (oFloat bs s.a) (fun v a' e => oFloat_shape e)
  have H := hide h
  have HR := hide hst
  have hlt := h.r.lt
  have hltx := h.x.lt
  have hnx := h.n1
  have HF := hide ((Fr.refl (fun _ => False) w).alloc (.cells #[.int .i64 2, .int .i64 n, .int .i64 size, .float .f64 x, .bool is, .string t] 34))
  have H1 := hide (h.alloc (.cells #[.int .i64 2, .int .i64 n, .int .i64 size, .float .f64 x, .bool is, .string t] 34))
  clear h hk hst
  simp only [Pc.vals]
  have htb := tobits
  have hself : ((r : Int) == (r : Int)) = true := by simp
  go_enter Try.func19, Try.ntmps19
  go_wp2_with fail
  refine (rfloat_any (unhide H1).r).mono ?_
  rw [unhide HR]
  rintro e w1 ⟨rfl, hS, hF1⟩
  have HS := hide (And.intro hS (And.intro ((unhide H1).xstay hF1) hF1))
  clear hS hF1
  go_wp2_with fail
  refine (xFloat (unhide HS).2.1).mono ?_
  rw [unhide HR]
  rintro e w2 ⟨rfl, hX2, hF2⟩
  have HE := hide (And.intro ((unhide H).both (unhide HS).1 hX2 hF2) (fr_both (unhide HF) (unhide HS).2.2 hF2))
  clear hX2 hF2 HS H H1 HF HR
  go_wp2
  go_ret
  exact ⟨by simp, ⟨s', (unhide HE).1⟩, (unhide HE).2⟩

theorem takes3 (h : RX w p g xp ao cap bs s) (q : Pc) (hk : q.kind = 3) :
    Calls Try.prog 19 #[.pointer (some ⟨p, 0, none⟩), .pointer (some ⟨xp, 0, none⟩), .agg q.vals] w (Both p g xp ao cap bs w) := by
  obtain ⟨kind, n, size, x, is, t⟩ := q
  have hk' : kind = 3 := hk
  subst hk'
  obtain ⟨r, s', hst⟩ := stepR_shape (A := Bool) (fun r => (.bool r : Value)) false s (oBool bs s.a) (fun v a' e => oBool_shape e)
  have H := hide h
  have HR := hide hst
  have hlt := h.r.lt
  have hltx := h.x.lt
  have hnx := h.n1
  have HF := hide ((Fr.refl (fun _ => False) w).alloc (.cells #[.int .i64 3, .int .i64 n, .int .i64 size, .float .f64 x, .bool is, .string t] 34))
  have H1 := hide (h.alloc (.cells #[.int .i64 3, .int .i64 n, .int .i64 size, .float .f64 x, .bool is, .string t] 34))
  clear h hk hst
  simp only [Pc.vals]
  go_enter Try.func19, Try.ntmps19
  go_wp2_with fail
  refine (rbool_any (unhide H1).r).mono ?_
  rw [unhide HR]
  rintro e w1 ⟨rfl, hS, hF1⟩
  have HS := hide (And.intro hS (And.intro ((unhide H1).xstay hF1) hF1))
  clear hS hF1
  go_wp2_with fail
  refine (xBool (unhide HS).2.1).mono ?_
  rw [unhide HR]
  rintro e w2 ⟨rfl, hX2, hF2⟩
  have HE := hide (And.intro ((unhide H).both (unhide HS).1 hX2 hF2) (fr_both (unhide HF) (unhide HS).2.2 hF2))
  clear hX2 hF2 HS H H1 HF HR
  go_wp2
  go_ret
  exact ⟨by simp, ⟨s', (unhide HE).1⟩, (unhide HE).2⟩

theorem takes4 (h : RX w p g xp ao cap bs s) (q : Pc) (hk : q.kind = 4) :
    Calls Try.prog 19 #[.pointer (some ⟨p, 0, none⟩), .pointer (some ⟨xp, 0, none⟩), .agg q.vals] w (Both p g xp ao cap bs w) := by
  obtain ⟨kind, n, size, x, is, t⟩ := q
  have hk' : kind = 4 := hk
  subst hk'
  obtain ⟨r, s', hst⟩ := stepR_shape (A := ByteArray) (fun r => (.string r : Value)) ⟨#[]⟩ s (oText bs s.a size) (fun v a' e => oText_shape e)
  have H := hide h
  have HR := hide hst
  have hlt := h.r.lt
  have hltx := h.x.lt
  have hnx := h.n1
  have HF := hide ((Fr.refl (fun _ => False) w).alloc (.cells #[.int .i64 4, .int .i64 n, .int .i64 size, .float .f64 x, .bool is, .string t] 34))
  have H1 := hide (h.alloc (.cells #[.int .i64 4, .int .i64 n, .int .i64 size, .float .f64 x, .bool is, .string t] 34))
  clear h hk hst
  simp only [Pc.vals]
  go_enter Try.func19, Try.ntmps19
  go_wp2_with fail
  refine (rtext_any (unhide H1).r size).mono ?_
  rw [unhide HR]
  rintro e w1 ⟨rfl, hS, hF1⟩
  have hb0 : w.heap.size ≠ p := by omega
  have m0 := (hF1.cell (a := ⟨w.heap.size, 2, none⟩) (by simp) hb0).trans (show (w.alloc (.cells #[.int .i64 4, .int .i64 n, .int .i64 size, .float .f64 x, .bool is, .string t] 34)).cell? ⟨w.heap.size, 2, none⟩ = some (.int .i64 size) by simp)
  have HS := hide (And.intro hS (And.intro ((unhide H1).xstay hF1) hF1))
  clear hS hF1
  go_wp2_with fail
  refine (xText (unhide HS).2.1 size).mono ?_
  rw [unhide HR]
  rintro e w2 ⟨rfl, hX2, hF2⟩
  have HE := hide (And.intro ((unhide H).both (unhide HS).1 hX2 hF2) (fr_both (unhide HF) (unhide HS).2.2 hF2))
  clear hX2 hF2 HS H H1 HF HR
  go_wp2
  go_ret
  exact ⟨by simp, ⟨s', (unhide HE).1⟩, (unhide HE).2⟩

theorem takes5 (h : RX w p g xp ao cap bs s) (q : Pc) (hk : q.kind = 5) :
    Calls Try.prog 19 #[.pointer (some ⟨p, 0, none⟩), .pointer (some ⟨xp, 0, none⟩), .agg q.vals] w (Both p g xp ao cap bs w) := by
  obtain ⟨kind, n, size, x, is, t⟩ := q
  have hk' : kind = 5 := hk
  subst hk'
  obtain ⟨r, s', hst⟩ := stepR_shape (A := ByteArray) (fun r => (.string r : Value)) ⟨#[]⟩ s (oFixed bs s.a size) (fun v a' e => oFixed_shape e)
  have H := hide h
  have HR := hide hst
  have hlt := h.r.lt
  have hltx := h.x.lt
  have hnx := h.n1
  have HF := hide ((Fr.refl (fun _ => False) w).alloc (.cells #[.int .i64 5, .int .i64 n, .int .i64 size, .float .f64 x, .bool is, .string t] 34))
  have H1 := hide (h.alloc (.cells #[.int .i64 5, .int .i64 n, .int .i64 size, .float .f64 x, .bool is, .string t] 34))
  clear h hk hst
  simp only [Pc.vals]
  go_enter Try.func19, Try.ntmps19
  go_wp2_with fail
  refine (rfixed_any (unhide H1).r size).mono ?_
  rw [unhide HR]
  rintro e w1 ⟨rfl, hS, hF1⟩
  have hb0 : w.heap.size ≠ p := by omega
  have m0 := (hF1.cell (a := ⟨w.heap.size, 2, none⟩) (by simp) hb0).trans (show (w.alloc (.cells #[.int .i64 5, .int .i64 n, .int .i64 size, .float .f64 x, .bool is, .string t] 34)).cell? ⟨w.heap.size, 2, none⟩ = some (.int .i64 size) by simp)
  have HS := hide (And.intro hS (And.intro ((unhide H1).xstay hF1) hF1))
  clear hS hF1
  go_wp2_with fail
  refine (xFixed (unhide HS).2.1 size).mono ?_
  rw [unhide HR]
  rintro e w2 ⟨rfl, hX2, hF2⟩
  have HE := hide (And.intro ((unhide H).both (unhide HS).1 hX2 hF2) (fr_both (unhide HF) (unhide HS).2.2 hF2))
  clear hX2 hF2 HS H H1 HF HR
  go_wp2
  go_ret
  exact ⟨by simp, ⟨s', (unhide HE).1⟩, (unhide HE).2⟩

theorem takes6 (h : RX w p g xp ao cap bs s) (q : Pc) (hk : q.kind = 6) :
    Calls Try.prog 19 #[.pointer (some ⟨p, 0, none⟩), .pointer (some ⟨xp, 0, none⟩), .agg q.vals] w (Both p g xp ao cap bs w) := by
  obtain ⟨kind, n, size, x, is, t⟩ := q
  have hk' : kind = 6 := hk
  subst hk'
  obtain ⟨r, s', hst⟩ := stepR_shape (A := Int) (fun r => (.int .i64 r : Value)) (0 : Int) s (oCount bs s.a size) (fun v a' e => oCount_shape e)
  have H := hide h
  have HR := hide hst
  have hlt := h.r.lt
  have hltx := h.x.lt
  have hnx := h.n1
  have HF := hide ((Fr.refl (fun _ => False) w).alloc (.cells #[.int .i64 6, .int .i64 n, .int .i64 size, .float .f64 x, .bool is, .string t] 34))
  have H1 := hide (h.alloc (.cells #[.int .i64 6, .int .i64 n, .int .i64 size, .float .f64 x, .bool is, .string t] 34))
  clear h hk hst
  simp only [Pc.vals]
  go_enter Try.func19, Try.ntmps19
  go_wp2_with fail
  refine (rcount_any (unhide H1).r size).mono ?_
  rw [unhide HR]
  rintro e w1 ⟨rfl, hS, hF1⟩
  have hb0 : w.heap.size ≠ p := by omega
  have m0 := (hF1.cell (a := ⟨w.heap.size, 2, none⟩) (by simp) hb0).trans (show (w.alloc (.cells #[.int .i64 6, .int .i64 n, .int .i64 size, .float .f64 x, .bool is, .string t] 34)).cell? ⟨w.heap.size, 2, none⟩ = some (.int .i64 size) by simp)
  have HS := hide (And.intro hS (And.intro ((unhide H1).xstay hF1) hF1))
  clear hS hF1
  go_wp2_with fail
  refine (xCount (unhide HS).2.1 size).mono ?_
  rw [unhide HR]
  rintro e w2 ⟨rfl, hX2, hF2⟩
  have HE := hide (And.intro ((unhide H).both (unhide HS).1 hX2 hF2) (fr_both (unhide HF) (unhide HS).2.2 hF2))
  clear hX2 hF2 HS H H1 HF HR
  go_wp2
  go_ret
  exact ⟨by simp, ⟨s', (unhide HE).1⟩, (unhide HE).2⟩

theorem takes7 (h : RX w p g xp ao cap bs s) (q : Pc) (hk : q.kind = 7) :
    Calls Try.prog 19 #[.pointer (some ⟨p, 0, none⟩), .pointer (some ⟨xp, 0, none⟩), .agg q.vals] w (Both p g xp ao cap bs w) := by
  obtain ⟨kind, n, size, x, is, t⟩ := q
  have hk' : kind = 7 := hk
  subst hk'
  have H := hide h
  have hlt := h.r.lt
  have hltx := h.x.lt
  have hnx := h.n1
  have HF := hide ((Fr.refl (fun _ => False) w).alloc (.cells #[.int .i64 7, .int .i64 n, .int .i64 size, .float .f64 x, .bool is, .string t] 34))
  have H1 := hide (h.alloc (.cells #[.int .i64 7, .int .i64 n, .int .i64 size, .float .f64 x, .bool is, .string t] 34))
  clear h hk
  simp only [Pc.vals]
  go_enter Try.func19, Try.ntmps19
  go_wp2_with fail
  refine (fail_any (unhide H1).r n).mono ?_
  rintro e w1 ⟨rfl, hS, hF1⟩
  have hb0 : w.heap.size ≠ p := by omega
  have m0 := (hF1.cell (a := ⟨w.heap.size, 1, none⟩) (by simp) hb0).trans (show (w.alloc (.cells #[.int .i64 7, .int .i64 n, .int .i64 size, .float .f64 x, .bool is, .string t] 34)).cell? ⟨w.heap.size, 1, none⟩ = some (.int .i64 n) by simp)
  have HS := hide (And.intro hS (And.intro ((unhide H1).xstay hF1) hF1))
  clear hS hF1
  go_wp2_with fail
  refine (xFail (unhide HS).2.1 n).mono ?_
  rintro e w2 ⟨rfl, hX2, hF2⟩
  have HE := hide (And.intro ((unhide H).both (unhide HS).1 hX2 hF2) (fr_both (unhide HF) (unhide HS).2.2 hF2))
  clear hX2 hF2 HS H H1 HF
  go_wp2
  go_ret
  exact ⟨by simp, ⟨_, (unhide HE).1⟩, (unhide HE).2⟩

theorem takes_not (h : RX w p g xp ao cap bs s) (q : Pc) (hk : q.kind < 0 ∨ 8 < q.kind) :
    Calls Try.prog 19 #[.pointer (some ⟨p, 0, none⟩), .pointer (some ⟨xp, 0, none⟩), .agg q.vals] w (Both p g xp ao cap bs w) := by
  obtain ⟨kind, n, size, x, is, t⟩ := q
  have hk' : kind < 0 ∨ 8 < kind := hk
  have H := hide h
  have h0 : (kind == 0) = false := by simp; omega
  have h1 : (kind == 1) = false := by simp; omega
  have h2 : (kind == 2) = false := by simp; omega
  have h3 : (kind == 3) = false := by simp; omega
  have h4 : (kind == 4) = false := by simp; omega
  have h5 : (kind == 5) = false := by simp; omega
  have h6 : (kind == 6) = false := by simp; omega
  have h7 : (kind == 7) = false := by simp; omega
  have h8 : (kind == 8) = false := by simp; omega
  clear h hk hk'
  simp only [Pc.vals]
  go_enter Try.func19, Try.ntmps19
  go_wp2
  go_ret
  exact ⟨rfl, ⟨s, (unhide H).alloc _⟩, (Fr.refl _ _).alloc _⟩

theorem takes8 (h : RX w p g xp ao cap bs s) (q : Pc) (hk : q.kind = 8) :
    Calls Try.prog 19 #[.pointer (some ⟨p, 0, none⟩), .pointer (some ⟨xp, 0, none⟩), .agg q.vals] w (Both p g xp ao cap bs w) := by
  obtain ⟨kind, n, size, x, is, t⟩ := q
  have hk' : kind = 8 := hk
  subst hk'
  obtain ⟨s', Hs'⟩ : ∃ s', Hid (endR s bs.length = s') := ⟨_, rfl⟩
  have H := hide h
  have hlt := h.r.lt
  have hltx := h.x.lt
  have hnx := h.n1
  have HF := hide ((Fr.refl (fun _ => False) w).alloc (.cells #[.int .i64 8, .int .i64 n, .int .i64 size, .float .f64 x, .bool is, .string t] 34))
  have H1 := hide (h.alloc (.cells #[.int .i64 8, .int .i64 n, .int .i64 size, .float .f64 x, .bool is, .string t] 34))
  clear h hk
  simp only [Pc.vals]
  go_enter Try.func19, Try.ntmps19
  go_wp2_with fail
  refine (end_any (unhide H1).r).mono ?_
  rw [unhide Hs']
  rintro e w1 ⟨rfl, hS, hF1⟩
  have hX1 := ((unhide H1).xstay hF1).alloc (.cells #[.int .i64 s'.c, .int .i64 s'.f] 47)
  have hS1 := RAt.alloc hS (.cells #[.int .i64 s'.c, .int .i64 s'.f] 47)
  have hFA := hF1.alloc (.cells #[.int .i64 s'.c, .int .i64 s'.f] 47)
  have hxs := ((unhide H1).xstay hF1).lt
  have hwx : w1.heap.size ≠ xp := by omega
  have m0 : (w1.alloc (.cells #[.int .i64 s'.c, .int .i64 s'.f] 47)).cell? ⟨w1.heap.size, 0, none⟩ = some (.int .i64 s'.c) := by simp
  have m1 : (w1.alloc (.cells #[.int .i64 s'.c, .int .i64 s'.f] 47)).cell? ⟨w1.heap.size, 1, none⟩ = some (.int .i64 s'.f) := by simp
  have HS := hide (And.intro hS1 (And.intro hX1 hFA))
  clear hS hF1 hX1 hS1 hFA
  go_wp2_with fail
  have hwl : w1.heap.size < (w1.alloc (.cells #[.int .i64 s'.c, .int .i64 s'.f] 47)).heap.size := by simp
  generalize (w1.alloc (.cells #[.int .i64 s'.c, .int .i64 s'.f] 47)) = wA at HS m0 m1 hwl ⊢
  have hcc : (s'.c == s'.c) = true := by simp
  have hff : (s'.f == s'.f) = true := by simp
  have HX := hide (show XAt wA.drew xp ao cap bs s from (unhide HS).2.1.drewN 1)
  have HW := hide (show s'.At wA.drew p g bs ∧ Fr (· = p) (w.alloc (.cells #[.int .i64 8, .int .i64 n, .int .i64 size, .float .f64 x, .bool is, .string t] 34)) wA.drew from ⟨RAt.drewN (unhide HS).1 1, (unhide HS).2.2.drewN 1⟩)
  clear HS H1
  go_region_with (go_at_call 59; refine (xEnd (unhide HX)).mono ?_; rw [unhide Hs']; rintro e w7 ⟨rfl, hX7, hF7⟩; have n0 := (hF7.cell (a := ⟨w1.heap.size, 0, none⟩) hwl hwx).trans m0; have n1 := (hF7.cell (a := ⟨w1.heap.size, 1, none⟩) hwl hwx).trans m1; have HE := hide (And.intro ((unhide H).both (unhide HW).1 hX7 hF7) (fr_both (unhide HF) (unhide HW).2 hF7)); clear hX7 hF7)
  all_goals
    go_wp2
    go_ret
    exact ⟨by first | rfl | simp, ⟨s', (unhide HE).1⟩, (unhide HE).2⟩

/-- The law's takes. -/
theorem takes_any (h : RX w p g xp ao cap bs s) (q : Pc) :
    Calls Try.prog 19 #[.pointer (some ⟨p, 0, none⟩), .pointer (some ⟨xp, 0, none⟩), .agg q.vals] w (Both p g xp ao cap bs w) := by
  by_cases hk : q.kind < 0 ∨ 8 < q.kind
  · exact takes_not h q hk
  have hk2 : q.kind = 0 ∨ q.kind = 1 ∨ q.kind = 2 ∨ q.kind = 3 ∨ q.kind = 4 ∨ q.kind = 5 ∨ q.kind = 6 ∨ q.kind = 7 ∨ q.kind = 8 := by omega
  rcases hk2 with hk2 | hk2 | hk2 | hk2 | hk2 | hk2 | hk2 | hk2 | hk2
  · exact takes0 h q hk2
  · exact takes1 h q hk2
  · exact takes2 h q hk2
  · exact takes3 h q hk2
  · exact takes4 h q hk2
  · exact takes5 h q hk2
  · exact takes6 h q hk2
  · exact takes7 h q hk2
  · exact takes8 h q hk2

end
end Go.Proofs.Ytdbmojiplfkniaa
