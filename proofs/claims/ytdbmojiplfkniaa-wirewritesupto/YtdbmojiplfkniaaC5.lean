/- The law's own function taken, the reader's End, the document's Bits. -/
import Derived.Test.YtdbmojiplfkniaaM2
import Derived.Test.YtdbmojiplfkniaaC3
namespace Go.Proofs.Ytdbmojiplfkniaa
open Go.RowKit

def bitsN (b : Nat) : Nat := if nanB b then 9221120237041090560 else b

theorem bits_any (b : Nat) (w : World) : Calls Try.prog 90 #[.float .f64 b] w fun e w' => e = .returned (.int .u64 (bitsN b)) ∧ w = w' := by
  have htb := tobits
  by_cases hn : nanB b = true
  · rw [show bitsN b = 9221120237041090560 by simp only [bitsN, hn, if_true]]
    have hn' : (FloatKind.f64.format.order b b != some .eq) = true := hn
    clear hn
    go_enter Try.func90, Try.ntmps90
    go_wp2
    go_ret
    exact ⟨rfl, rfl⟩
  · have hn2 : nanB b = false := by simpa using hn
    rw [show bitsN b = b by simp only [bitsN, hn2, if_false, Bool.false_eq_true]]
    have hn' : (FloatKind.f64.format.order b b != some .eq) = false := hn2
    clear hn hn2
    go_enter Try.func90, Try.ntmps90
    go_wp2
    go_ret
    exact ⟨rfl, rfl⟩

theorem same_any (x y : Nat) (w : World) : Calls Try.prog 53 #[.float .f64 x, .float .f64 y] w fun e w' => e = .returned (.bool ((bitsN x : Int) == (bitsN y : Int))) ∧ w = w' := by
  go_enter Try.func53, Try.ntmps53
  go_wp2_with fail
  refine (bits_any x _).mono ?_
  rintro e w1 ⟨rfl, rfl⟩
  go_wp2_with fail
  refine (bits_any y _).mono ?_
  rintro e w1 ⟨rfl, rfl⟩
  go_wp2
  go_ret
  exact ⟨rfl, rfl⟩

theorem bitsN_idem (b : Nat) : bitsN (bitsN b) = bitsN b := by
  unfold bitsN
  by_cases h : nanB b = true
  · rw [if_pos h]; split <;> rfl
  · rw [if_neg h, if_neg h]

theorem RAt.setOther {w : World} {p g : Nat} {bs : List UInt8} {a l : Nat} {c f : Int} (h : RAt w p g bs a l c f) {b o : Nat} (hp : b ≠ p) (hg : 0 < bs.length → b ≠ g) (v : Value) : RAt (w.setCell ⟨b, o, none⟩ v) p g bs a l c f := by
  have e : ∀ b' i, b ≠ b' → (w.setCell ⟨b, o, none⟩ v).cell? ⟨b', i, none⟩ = w.cell? ⟨b', i, none⟩ := fun b' i hi => World.cell?_setCell_other _ _ _ _ (by intro h; injection h with h1 h2; exact hi h1)
  refine ⟨?_, (e _ _ hp).trans h.c1, (e _ _ hp).trans h.c2, (e _ _ hp).trans h.c3, (e _ _ hp).trans h.c4, fun i hi => by rw [World.frozen?_setCell]; exact h.fz i hi, fun j hj => (e _ _ (hg (by omega))).trans (h.row j hj), h.ne, h.le, h.small⟩
  obtain ⟨ao, cap, h0, r⟩ := h.c0
  exact ⟨ao, cap, (e _ _ hp).trans h0, r⟩

theorem RAt.rowlt {w : World} {p g : Nat} {bs : List UInt8} {a l : Nat} {c f : Int} (h : RAt w p g bs a l c f) (h0 : 0 < bs.length) : g < w.heap.size := World.block_lt_of_cell? _ _ (h.row 0 h0)

/-- How a piece that was put comes out. -/
def Taken (p g : Nat) (bs : List UInt8) (s : RS) (n : Nat) (w : World) (e : Ending) (w' : World) : Prop :=
  e = .returned (.bool true) ∧ (∃ l', (RS.mk (s.a + n) l' 0 s.f).At w' p g bs) ∧ Fr (· = p) w w'

theorem taken0 {w : World} {p g : Nat} {bs ms tail : List UInt8} {s : RS} (h : s.At w p g bs) (hc : s.c = 0) (q : Pc) (hk : q.kind = 0) (hq : q.bytes = some ms) (hd : bs.drop s.a = ms ++ tail) (hn2 : q.n ≤ 9223372036854775807) :
    Calls Try.prog 23 #[.pointer (some ⟨p, 0, none⟩), .agg q.vals] w (Taken p g bs s ms.length w) := by
  obtain ⟨kind, n, size, x, is, t⟩ := q
  have hk' : kind = 0 := hk
  subst hk'
  have hq' : wNumber n size = some ms := hq
  have ho : oNumber bs s.a size = .ok (.int .i64 n, s.a + ms.length) := back_number hn2 hq' h.le hd
  have hst : stepR s (.int .i64 0) (oNumber bs s.a size) = (.int .i64 n, ⟨s.a + ms.length, s.a, 0, s.f⟩) := by rw [ho]; simp only [stepR, hc, if_true]
  have H := hide h
  have HR := hide hst
  have hlt := h.lt
  clear h hk hq hq' ho hst hc hd hn2
  simp only [Pc.vals]
  have HF := hide ((Fr.refl (fun _ => False) w).alloc (.cells #[.int .i64 0, .int .i64 n, .int .i64 size, .float .f64 x, .bool is, .string t] 34))
  go_enter Try.func23, Try.ntmps23
  go_wp2_with fail
  refine (rnumber_any (RAt.alloc (unhide H) _) size).mono ?_
  rw [unhide HR]
  rintro e w1 ⟨rfl, hS, hF1⟩
  have hb0 : w.heap.size ≠ p := by omega
  have m0 := (hF1.cell (a := ⟨w.heap.size, 1, none⟩) (by simp) hb0).trans (show (w.alloc (.cells #[.int .i64 0, .int .i64 n, .int .i64 size, .float .f64 x, .bool is, .string t] 34)).cell? ⟨w.heap.size, 1, none⟩ = some (.int .i64 n) by simp)
  have HS := hide (And.intro hS (((unhide HF).mono (T := (· = p)) (fun _ _ t => t.elim)).trans hF1 (fun _ _ t => t)))
  clear hS hF1 HF H HR
  go_wp2
  go_ret
  exact ⟨by simp, ⟨s.a, (unhide HS).1⟩, (unhide HS).2⟩

theorem taken1 {w : World} {p g : Nat} {bs ms tail : List UInt8} {s : RS} (h : s.At w p g bs) (hc : s.c = 0) (q : Pc) (hk : q.kind = 1) (hq : q.bytes = some ms) (hd : bs.drop s.a = ms ++ tail) (hn1 : -9223372036854775808 ≤ q.n) (hn2 : q.n ≤ 9223372036854775807) :
    Calls Try.prog 23 #[.pointer (some ⟨p, 0, none⟩), .agg q.vals] w (Taken p g bs s ms.length w) := by
  obtain ⟨kind, n, size, x, is, t⟩ := q
  have hk' : kind = 1 := hk
  subst hk'
  have hq' : wInt n = some ms := hq
  have ho : oInt bs s.a = .ok (.int .i64 n, s.a + ms.length) := back_int hn1 hn2 hq' h.le hd
  have hst : stepR s (.int .i64 0) (oInt bs s.a) = (.int .i64 n, ⟨s.a + ms.length, s.a, 0, s.f⟩) := by rw [ho]; simp only [stepR, hc, if_true]
  have H := hide h
  have HR := hide hst
  have hlt := h.lt
  clear h hk hq hq' ho hst hc hd hn1 hn2
  simp only [Pc.vals]
  have HF := hide ((Fr.refl (fun _ => False) w).alloc (.cells #[.int .i64 1, .int .i64 n, .int .i64 size, .float .f64 x, .bool is, .string t] 34))
  go_enter Try.func23, Try.ntmps23
  go_wp2_with fail
  refine (rint_any (RAt.alloc (unhide H) _)).mono ?_
  rw [unhide HR]
  rintro e w1 ⟨rfl, hS, hF1⟩
  have hb0 : w.heap.size ≠ p := by omega
  have m0 := (hF1.cell (a := ⟨w.heap.size, 1, none⟩) (by simp) hb0).trans (show (w.alloc (.cells #[.int .i64 1, .int .i64 n, .int .i64 size, .float .f64 x, .bool is, .string t] 34)).cell? ⟨w.heap.size, 1, none⟩ = some (.int .i64 n) by simp)
  have HS := hide (And.intro hS (((unhide HF).mono (T := (· = p)) (fun _ _ t => t.elim)).trans hF1 (fun _ _ t => t)))
  clear hS hF1 HF H HR
  go_wp2
  go_ret
  exact ⟨by simp, ⟨s.a, (unhide HS).1⟩, (unhide HS).2⟩

theorem taken2 {w : World} {p g : Nat} {bs ms tail : List UInt8} {s : RS} (h : s.At w p g bs) (hc : s.c = 0) (q : Pc) (hk : q.kind = 2) (hq : q.bytes = some ms) (hd : bs.drop s.a = ms ++ tail) (hx : q.x < 18446744073709551616) :
    Calls Try.prog 23 #[.pointer (some ⟨p, 0, none⟩), .agg q.vals] w (Taken p g bs s ms.length w) := by
  obtain ⟨kind, n, size, x, is, t⟩ := q
  have hk' : kind = 2 := hk
  subst hk'
  have hq' : wFloat x = some ms := hq
  obtain ⟨y, Hy⟩ : ∃ y, Hid ((if nanB x then 9221120237041090560 else x) = y) := ⟨_, rfl⟩
  have ho : oFloat bs s.a = .ok (.float .f64 y, s.a + ms.length) := (by rw [← unhide Hy]; exact back_float hx hq' h.le hd)
  have hst : stepR s (.float .f64 0) (oFloat bs s.a) = (.float .f64 y, ⟨s.a + ms.length, s.a, 0, s.f⟩) := by rw [ho]; simp only [stepR, hc, if_true]
  have H := hide h
  have HR := hide hst
  have hlt := h.lt
  clear h hk hq hq' ho hst hc hd hx
  simp only [Pc.vals]
  have HF := hide ((Fr.refl (fun _ => False) w).alloc (.cells #[.int .i64 2, .int .i64 n, .int .i64 size, .float .f64 x, .bool is, .string t] 34))
  go_enter Try.func23, Try.ntmps23
  go_wp2_with fail
  refine (rfloat_any (RAt.alloc (unhide H) _)).mono ?_
  rw [unhide HR]
  rintro e w1 ⟨rfl, hS, hF1⟩
  have hb0 : w.heap.size ≠ p := by omega
  have m0 := (hF1.cell (a := ⟨w.heap.size, 3, none⟩) (by simp) hb0).trans (show (w.alloc (.cells #[.int .i64 2, .int .i64 n, .int .i64 size, .float .f64 x, .bool is, .string t] 34)).cell? ⟨w.heap.size, 3, none⟩ = some (.float .f64 x) by simp)
  have HS := hide (And.intro hS (((unhide HF).mono (T := (· = p)) (fun _ _ t => t.elim)).trans hF1 (fun _ _ t => t)))
  clear hS hF1 HF H HR
  go_wp2_with fail
  refine (same_any _ _ _).mono ?_
  rintro e w2 ⟨rfl, rfl⟩
  go_wp2
  go_ret
  exact ⟨by rw [← unhide Hy, show (if nanB x = true then 9221120237041090560 else x) = bitsN x from rfl, bitsN_idem]; simp, ⟨s.a, (unhide HS).1⟩, (unhide HS).2⟩

theorem taken3 {w : World} {p g : Nat} {bs ms tail : List UInt8} {s : RS} (h : s.At w p g bs) (hc : s.c = 0) (q : Pc) (hk : q.kind = 3) (hq : q.bytes = some ms) (hd : bs.drop s.a = ms ++ tail) :
    Calls Try.prog 23 #[.pointer (some ⟨p, 0, none⟩), .agg q.vals] w (Taken p g bs s ms.length w) := by
  obtain ⟨kind, n, size, x, is, t⟩ := q
  have hk' : kind = 3 := hk
  subst hk'
  have hq' : wBool is = some ms := hq
  have ho : oBool bs s.a = .ok (.bool is, s.a + ms.length) := back_bool hq' h.le hd
  have hst : stepR s (.bool false) (oBool bs s.a) = (.bool is, ⟨s.a + ms.length, s.a, 0, s.f⟩) := by rw [ho]; simp only [stepR, hc, if_true]
  have H := hide h
  have HR := hide hst
  have hlt := h.lt
  clear h hk hq hq' ho hst hc hd
  simp only [Pc.vals]
  have HF := hide ((Fr.refl (fun _ => False) w).alloc (.cells #[.int .i64 3, .int .i64 n, .int .i64 size, .float .f64 x, .bool is, .string t] 34))
  go_enter Try.func23, Try.ntmps23
  go_wp2_with fail
  refine (rbool_any (RAt.alloc (unhide H) _)).mono ?_
  rw [unhide HR]
  rintro e w1 ⟨rfl, hS, hF1⟩
  have hb0 : w.heap.size ≠ p := by omega
  have m0 := (hF1.cell (a := ⟨w.heap.size, 4, none⟩) (by simp) hb0).trans (show (w.alloc (.cells #[.int .i64 3, .int .i64 n, .int .i64 size, .float .f64 x, .bool is, .string t] 34)).cell? ⟨w.heap.size, 4, none⟩ = some (.bool is) by simp)
  have HS := hide (And.intro hS (((unhide HF).mono (T := (· = p)) (fun _ _ t => t.elim)).trans hF1 (fun _ _ t => t)))
  clear hS hF1 HF H HR
  go_wp2
  go_ret
  exact ⟨by simp, ⟨s.a, (unhide HS).1⟩, (unhide HS).2⟩

theorem taken4 {w : World} {p g : Nat} {bs ms tail : List UInt8} {s : RS} (h : s.At w p g bs) (hc : s.c = 0) (q : Pc) (hk : q.kind = 4) (hq : q.bytes = some ms) (hd : bs.drop s.a = ms ++ tail) :
    Calls Try.prog 23 #[.pointer (some ⟨p, 0, none⟩), .agg q.vals] w (Taken p g bs s ms.length w) := by
  obtain ⟨kind, n, size, x, is, t⟩ := q
  have hk' : kind = 4 := hk
  subst hk'
  have hq' : wText t = some ms := hq
  have ho : oText bs s.a t.size = .ok (.string t, s.a + ms.length) := back_text hq' h.le hd
  have hst : stepR s (.string ⟨#[]⟩) (oText bs s.a t.size) = (.string t, ⟨s.a + ms.length, s.a, 0, s.f⟩) := by rw [ho]; simp only [stepR, hc, if_true]
  have H := hide h
  have HR := hide hst
  have hlt := h.lt
  clear h hk hq hq' ho hst hc hd
  simp only [Pc.vals]
  have HF := hide ((Fr.refl (fun _ => False) w).alloc (.cells #[.int .i64 4, .int .i64 n, .int .i64 size, .float .f64 x, .bool is, .string t] 34))
  go_enter Try.func23, Try.ntmps23
  go_wp2_with fail
  refine (rtext_any (RAt.alloc (unhide H) _) t.size).mono ?_
  rw [unhide HR]
  rintro e w1 ⟨rfl, hS, hF1⟩
  have hb0 : w.heap.size ≠ p := by omega
  have m0 := (hF1.cell (a := ⟨w.heap.size, 5, none⟩) (by simp) hb0).trans (show (w.alloc (.cells #[.int .i64 4, .int .i64 n, .int .i64 size, .float .f64 x, .bool is, .string t] 34)).cell? ⟨w.heap.size, 5, none⟩ = some (.string t) by simp)
  have HS := hide (And.intro hS (((unhide HF).mono (T := (· = p)) (fun _ _ t => t.elim)).trans hF1 (fun _ _ t => t)))
  clear hS hF1 HF H HR
  go_wp2
  go_ret
  exact ⟨by simp, ⟨s.a, (unhide HS).1⟩, (unhide HS).2⟩

theorem taken5 {w : World} {p g : Nat} {bs ms tail : List UInt8} {s : RS} (h : s.At w p g bs) (hc : s.c = 0) (q : Pc) (hk : q.kind = 5) (hq : q.bytes = some ms) (hd : bs.drop s.a = ms ++ tail) :
    Calls Try.prog 23 #[.pointer (some ⟨p, 0, none⟩), .agg q.vals] w (Taken p g bs s ms.length w) := by
  obtain ⟨kind, n, size, x, is, t⟩ := q
  have hk' : kind = 5 := hk
  subst hk'
  have hq' : wFixed t size = some ms := hq
  have ho : oFixed bs s.a size = .ok (.string t, s.a + ms.length) := back_fixed hq' h.le hd
  have hst : stepR s (.string ⟨#[]⟩) (oFixed bs s.a size) = (.string t, ⟨s.a + ms.length, s.a, 0, s.f⟩) := by rw [ho]; simp only [stepR, hc, if_true]
  have H := hide h
  have HR := hide hst
  have hlt := h.lt
  clear h hk hq hq' ho hst hc hd
  simp only [Pc.vals]
  have HF := hide ((Fr.refl (fun _ => False) w).alloc (.cells #[.int .i64 5, .int .i64 n, .int .i64 size, .float .f64 x, .bool is, .string t] 34))
  go_enter Try.func23, Try.ntmps23
  go_wp2_with fail
  refine (rfixed_any (RAt.alloc (unhide H) _) size).mono ?_
  rw [unhide HR]
  rintro e w1 ⟨rfl, hS, hF1⟩
  have hb0 : w.heap.size ≠ p := by omega
  have m0 := (hF1.cell (a := ⟨w.heap.size, 5, none⟩) (by simp) hb0).trans (show (w.alloc (.cells #[.int .i64 5, .int .i64 n, .int .i64 size, .float .f64 x, .bool is, .string t] 34)).cell? ⟨w.heap.size, 5, none⟩ = some (.string t) by simp)
  have HS := hide (And.intro hS (((unhide HF).mono (T := (· = p)) (fun _ _ t => t.elim)).trans hF1 (fun _ _ t => t)))
  clear hS hF1 HF H HR
  go_wp2
  go_ret
  exact ⟨by simp, ⟨s.a, (unhide HS).1⟩, (unhide HS).2⟩

theorem taken6 {w : World} {p g : Nat} {bs ms tail : List UInt8} {s : RS} (h : s.At w p g bs) (hc : s.c = 0) (q : Pc) (hk : q.kind = 6) (hq : q.bytes = some ms) (hd : bs.drop s.a = ms ++ tail) :
    Calls Try.prog 23 #[.pointer (some ⟨p, 0, none⟩), .agg q.vals] w (Taken p g bs s ms.length w) := by
  obtain ⟨kind, n, size, x, is, t⟩ := q
  have hk' : kind = 6 := hk
  subst hk'
  have hq' : wCount n = some ms := hq
  have ho : oCount bs s.a n = .ok (.int .i64 n, s.a + ms.length) := back_count hq' h.le hd
  have hst : stepR s (.int .i64 0) (oCount bs s.a n) = (.int .i64 n, ⟨s.a + ms.length, s.a, 0, s.f⟩) := by rw [ho]; simp only [stepR, hc, if_true]
  have H := hide h
  have HR := hide hst
  have hlt := h.lt
  clear h hk hq hq' ho hst hc hd
  simp only [Pc.vals]
  have HF := hide ((Fr.refl (fun _ => False) w).alloc (.cells #[.int .i64 6, .int .i64 n, .int .i64 size, .float .f64 x, .bool is, .string t] 34))
  go_enter Try.func23, Try.ntmps23
  go_wp2_with fail
  refine (rcount_any (RAt.alloc (unhide H) _) n).mono ?_
  rw [unhide HR]
  rintro e w1 ⟨rfl, hS, hF1⟩
  have hb0 : w.heap.size ≠ p := by omega
  have m0 := (hF1.cell (a := ⟨w.heap.size, 1, none⟩) (by simp) hb0).trans (show (w.alloc (.cells #[.int .i64 6, .int .i64 n, .int .i64 size, .float .f64 x, .bool is, .string t] 34)).cell? ⟨w.heap.size, 1, none⟩ = some (.int .i64 n) by simp)
  have HS := hide (And.intro hS (((unhide HF).mono (T := (· = p)) (fun _ _ t => t.elim)).trans hF1 (fun _ _ t => t)))
  clear hS hF1 HF H HR
  go_wp2
  go_ret
  exact ⟨by simp, ⟨s.a, (unhide HS).1⟩, (unhide HS).2⟩

theorem taken_not {w : World} {p g : Nat} {bs : List UInt8} {s : RS} (h : s.At w p g bs) (hc : s.c = 0) (q : Pc) (hk : q.kind < 0 ∨ 6 < q.kind) :
    Calls Try.prog 23 #[.pointer (some ⟨p, 0, none⟩), .agg q.vals] w (Taken p g bs s 0 w) := by
  obtain ⟨kind, n, size, x, is, t⟩ := q
  have hk' : kind < 0 ∨ 6 < kind := hk
  have h' : (RS.mk (s.a + 0) s.l 0 s.f).At w p g bs := by rw [← hc]; exact h
  have H := hide h'
  have h0 : (kind == 0) = false := by simp; omega
  have h1 : (kind == 1) = false := by simp; omega
  have h2 : (kind == 2) = false := by simp; omega
  have h3 : (kind == 3) = false := by simp; omega
  have h4 : (kind == 4) = false := by simp; omega
  have h5 : (kind == 5) = false := by simp; omega
  have h6 : (kind == 6) = false := by simp; omega
  clear h hk hk' h' hc
  simp only [Pc.vals]
  go_enter Try.func23, Try.ntmps23
  go_wp2
  go_ret
  exact ⟨rfl, ⟨s.l, RAt.alloc (unhide H) _⟩, (Fr.refl _ _).alloc _⟩

theorem bytes_other {q : Pc} (hk : q.kind < 0 ∨ 6 < q.kind) : q.bytes = some [] := by
  unfold Pc.bytes
  rw [if_neg (by omega), if_neg (by omega), if_neg (by omega), if_neg (by omega), if_neg (by omega), if_neg (by omega), if_neg (by omega)]

/-- The law's taken. -/
theorem taken_any {w : World} {p g : Nat} {bs ms tail : List UInt8} {s : RS} (h : s.At w p g bs) (hc : s.c = 0) (q : Pc) (hq : q.bytes = some ms) (hd : bs.drop s.a = ms ++ tail)
    (hn1 : -9223372036854775808 ≤ q.n) (hn2 : q.n ≤ 9223372036854775807) (hx : q.x < 18446744073709551616) :
    Calls Try.prog 23 #[.pointer (some ⟨p, 0, none⟩), .agg q.vals] w (Taken p g bs s ms.length w) := by
  by_cases hk : q.kind < 0 ∨ 6 < q.kind
  · rw [bytes_other hk] at hq
    injection hq with hq
    subst hq
    exact taken_not h hc q hk
  have hk2 : q.kind = 0 ∨ q.kind = 1 ∨ q.kind = 2 ∨ q.kind = 3 ∨ q.kind = 4 ∨ q.kind = 5 ∨ q.kind = 6 := by omega
  rcases hk2 with hk2 | hk2 | hk2 | hk2 | hk2 | hk2 | hk2
  · exact taken0 h hc q hk2 hq hd hn2
  · exact taken1 h hc q hk2 hq hd hn1 hn2
  · exact taken2 h hc q hk2 hq hd hx
  · exact taken3 h hc q hk2 hq hd
  · exact taken4 h hc q hk2 hq hd
  · exact taken5 h hc q hk2 hq hd
  · exact taken6 h hc q hk2 hq hd

/-- End. -/
theorem end_any {w : World} {p g : Nat} {bs : List UInt8} {s : RS} (h : s.At w p g bs) :
    Calls Try.prog 24 #[.pointer (some ⟨p, 0, none⟩)] w fun e w' => e = .returned (.agg #[.int .i64 (endR s bs.length).c, .int .i64 (endR s bs.length).f]) ∧ (endR s bs.length).At w' p g bs ∧ Fr (· = p) w w' := by
  have H := hide h
  have hlt := h.lt
  have hle := h.le
  have c1 := h.c1
  have c3 := h.c3
  have c4 := h.c4
  have f3 := h.fz 3 (by omega)
  have f4 := h.fz 4 (by omega)
  clear h
  by_cases hc : s.c = 0
  · have hcb : (s.c != 0) = false := by simp [hc]
    by_cases ha : s.a < bs.length
    · rw [show endR s bs.length = { s with c := 13, f := s.a } by simp [endR, hc, ha]]
      have hd : decide (0 < (bs.length : Int) - (s.a : Int)) = true := by simp; omega
      clear hc
      go_enter Try.func24, Try.ntmps24
      go_wp2_with fail
      refine (failed_any p s.c _ ((unhide H).alloc _).c3).mono ?_
      rintro e w1 ⟨rfl, rfl⟩
      go_wp2_with fail
      refine (left_r (RAt.alloc (unhide H) _)).mono ?_
      rintro e w1 ⟨rfl, j, rfl⟩
      have hnp : w.heap.size ≠ p := by omega
      have hng : 0 < bs.length → w.heap.size ≠ g := fun h0 => by have := RAt.rowlt (unhide H) h0; omega
      have HR := hide ((((((RAt.alloc (unhide H) (.cells #[.int .i64 0, .int .i64 0] 47)).drewN j).setCode 13).setPlace s.a).setOther (o := 0) hnp hng (.int .i64 13)).setOther (o := 1) hnp hng (.int .i64 s.a))
      have HF := hide (((((((Fr.refl (· = p) w).alloc (.cells #[.int .i64 0, .int .i64 0] 47)).drewN j).setCell (p := ⟨p, 3, none⟩) (fun _ => rfl) (.int .i64 13)).setCell (p := ⟨p, 4, none⟩) (fun _ => rfl) (.int .i64 s.a)).setCell (p := ⟨w.heap.size, 0, none⟩) (fun t => absurd t (Nat.lt_irrefl _)) (.int .i64 13)).setCell (p := ⟨w.heap.size, 1, none⟩) (fun t => absurd t (Nat.lt_irrefl _)) (.int .i64 s.a))
      clear hng
      go_wp2
      exact bodyPost_ret (v := .agg #[.int .i64 13, .int .i64 s.a]) (by simp [results, Try.results24, go_sem]) rfl ⟨rfl, unhide HR, unhide HF⟩
    · rw [show endR s bs.length = s by simp [endR, ha]]
      have hd : decide (0 < (bs.length : Int) - (s.a : Int)) = false := by simp; omega
      clear hc
      go_enter Try.func24, Try.ntmps24
      go_wp2_with fail
      refine (failed_any p s.c _ ((unhide H).alloc _).c3).mono ?_
      rintro e w1 ⟨rfl, rfl⟩
      go_wp2_with fail
      refine (left_r (RAt.alloc (unhide H) _)).mono ?_
      rintro e w1 ⟨rfl, j, rfl⟩
      have hnp : w.heap.size ≠ p := by omega
      have hng : 0 < bs.length → w.heap.size ≠ g := fun h0 => by have := RAt.rowlt (unhide H) h0; omega
      have HR := hide ((((RAt.alloc (unhide H) (.cells #[.int .i64 0, .int .i64 0] 47)).drewN j).setOther (o := 0) hnp hng (.int .i64 s.c)).setOther (o := 1) hnp hng (.int .i64 s.f))
      have HF := hide (((((Fr.refl (· = p) w).alloc (.cells #[.int .i64 0, .int .i64 0] 47)).drewN j).setCell (p := ⟨w.heap.size, 0, none⟩) (fun t => absurd t (Nat.lt_irrefl _)) (.int .i64 s.c)).setCell (p := ⟨w.heap.size, 1, none⟩) (fun t => absurd t (Nat.lt_irrefl _)) (.int .i64 s.f))
      clear hng
      go_wp2
      exact bodyPost_ret (v := .agg #[.int .i64 s.c, .int .i64 s.f]) (by simp [results, Try.results24, go_sem]) rfl ⟨rfl, unhide HR, unhide HF⟩
  · rw [show endR s bs.length = s by simp [endR, hc]]
    have hcb : (s.c != 0) = true := by simp [hc]
    clear hc
    go_enter Try.func24, Try.ntmps24
    go_wp2_with fail
    refine (failed_any p s.c _ ((unhide H).alloc _).c3).mono ?_
    rintro e w1 ⟨rfl, rfl⟩
    have HR := hide (RAt.alloc (unhide H) (.cells #[.int .i64 s.c, .int .i64 s.f] 47))
    have HF := hide ((Fr.refl (· = p) w).alloc (.cells #[.int .i64 s.c, .int .i64 s.f] 47))
    go_wp2
    exact bodyPost_ret (v := .agg #[.int .i64 s.c, .int .i64 s.f]) (by simp [results, Try.results24, go_sem]) rfl ⟨rfl, unhide HR, unhide HF⟩

end Go.Proofs.Ytdbmojiplfkniaa
