/- The law's own function nothing: it answers true behind a fault; and what becomes of the reader. -/
import Derived.Test.YtdbmojiplfkniaaC2
namespace Go.Proofs.Ytdbmojiplfkniaa
open Go.RowKit

theorem RAt.bump {w : World} {p g : Nat} {bs : List UInt8} {a l : Nat} {c f : Int} (h : RAt w p g bs a l c f) (o : Obj) : RAt (w.alloc o) p g bs a l c f := h.alloc o

/-- What a piece's call makes of a reader. -/
def stepP (bs : List UInt8) (s : RS) (q : Pc) : RS :=
  if q.kind = 0 then (stepR s (.int .i64 0) (oNumber bs s.a q.size)).2 else if q.kind = 1 then (stepR s (.int .i64 0) (oInt bs s.a)).2
  else if q.kind = 2 then (stepR s (.float .f64 0) (oFloat bs s.a)).2 else if q.kind = 3 then (stepR s (.bool false) (oBool bs s.a)).2
  else if q.kind = 4 then (stepR s (.string ⟨#[]⟩) (oText bs s.a q.size)).2 else if q.kind = 5 then (stepR s (.string ⟨#[]⟩) (oFixed bs s.a q.size)).2
  else if q.kind = 6 then (stepR s (.int .i64 0) (oCount bs s.a q.size)).2 else s

/-- Behind a fault: nothing, and nothing turns. -/
theorem stepR_bad {s : RS} (hc : s.c ≠ 0) (z : Value) (o : Except Int (Value × Nat)) : stepR s z o = (z, s) := by simp only [stepR, hc, if_false]

theorem stepR_cases (s : RS) (z : Value) (o : Except Int (Value × Nat)) : (stepR s z o).1 = z ∨ ∃ v a', o = .ok (v, a') ∧ (stepR s z o).1 = v := by
  by_cases hc : s.c = 0
  · cases o with
    | ok va => obtain ⟨v, a'⟩ := va; right; exact ⟨v, a', rfl, by simp [stepR, hc]⟩
    | error x => left; simp [stepR, hc]
  · left; rw [stepR_bad hc]

theorem oNumber_shape {bs : List UInt8} {a : Nat} {size : Int} {v : Value} {a' : Nat} (h : oNumber bs a size = .ok (v, a')) : ∃ n : Int, v = .int .i64 n := by
  unfold oNumber at h
  split at h
  · cases h
  · split at h
    · cases h
    · split at h
      · cases h
      · injection h with h; injection h with h1 h2; exact ⟨_, h1.symm⟩

theorem oInt_shape {bs : List UInt8} {a : Nat} {v : Value} {a' : Nat} (h : oInt bs a = .ok (v, a')) : ∃ n : Int, v = .int .i64 n := by
  unfold oInt at h
  split at h
  · cases h
  · injection h with h; injection h with h1 h2; exact ⟨_, h1.symm⟩

theorem oFloat_shape {bs : List UInt8} {a : Nat} {v : Value} {a' : Nat} (h : oFloat bs a = .ok (v, a')) : ∃ n : Nat, v = .float .f64 n := by
  unfold oFloat at h
  split at h
  · cases h
  · split at h
    · cases h
    · injection h with h; injection h with h1 h2; exact ⟨_, h1.symm⟩

theorem oBool_shape {bs : List UInt8} {a : Nat} {v : Value} {a' : Nat} (h : oBool bs a = .ok (v, a')) : ∃ n : Bool, v = .bool n := by
  unfold oBool at h
  split at h
  · cases h
  · split at h
    · cases h
    · injection h with h; injection h with h1 h2; exact ⟨_, h1.symm⟩

theorem oText_shape {bs : List UInt8} {a : Nat} {most : Int} {v : Value} {a' : Nat} (h : oText bs a most = .ok (v, a')) : ∃ n : ByteArray, v = .string n := by
  unfold oText at h
  split at h
  · cases h
  · split at h
    · cases h
    · split at h
      · cases h
      · split at h
        · cases h
        · injection h with h; injection h with h1 h2; exact ⟨_, h1.symm⟩

theorem oFixed_shape {bs : List UInt8} {a : Nat} {size : Int} {v : Value} {a' : Nat} (h : oFixed bs a size = .ok (v, a')) : ∃ n : ByteArray, v = .string n := by
  unfold oFixed at h
  split at h
  · cases h
  · split at h
    · cases h
    · injection h with h; injection h with h1 h2; exact ⟨_, h1.symm⟩

theorem oCount_shape {bs : List UInt8} {a : Nat} {most : Int} {v : Value} {a' : Nat} (h : oCount bs a most = .ok (v, a')) : ∃ n : Int, v = .int .i64 n := by
  unfold oCount at h
  split at h
  · cases h
  · split at h
    · cases h
    · split at h
      · cases h
      · injection h with h; injection h with h1 h2; exact ⟨_, h1.symm⟩

theorem nothing0 {w : World} {p g : Nat} {bs : List UInt8} {s : RS} (h : s.At w p g bs) (q : Pc) (hk : q.kind = 0) :
    Calls Try.prog 32 #[.pointer (some ⟨p, 0, none⟩), .agg q.vals] w fun e w' => (∃ b, e = .returned (.bool b) ∧ (s.c ≠ 0 → b = true)) ∧ (stepP bs s q).At w' p g bs ∧ Fr (· = p) w w' := by
  obtain ⟨kind, n, size, x, is, t⟩ := q
  have hk' : kind = 0 := hk
  subst hk'
  rw [show stepP bs s ⟨0, n, size, x, is, t⟩ = (stepR s (.int .i64 0) (oNumber bs s.a size)).2 from rfl]
  obtain ⟨r, hr1, hr2⟩ : ∃ r : Int, (stepR s (.int .i64 0) (oNumber bs s.a size)).1 = .int .i64 r ∧ (s.c ≠ 0 → r = 0) := by
    by_cases hc : s.c = 0
    · rcases stepR_cases s (.int .i64 0) (oNumber bs s.a size) with e | ⟨v, a', e1, e2⟩
      · exact ⟨0, e, fun _ => rfl⟩
      · obtain ⟨m, hm⟩ := oNumber_shape e1
        exact ⟨m, e2.trans hm, fun t => absurd hc t⟩
    · exact ⟨0, by rw [stepR_bad hc], fun _ => rfl⟩
  have H := hide h
  have HR := hide (And.intro hr1 hr2)
  have hlt := h.lt
  clear h hk hr1 hr2
  simp only [Pc.vals]
  have HF := hide ((Fr.refl (fun _ => False) w).alloc (.cells #[.int .i64 0, .int .i64 n, .int .i64 size, .float .f64 x, .bool is, .string t] 34))
  go_enter Try.func32, Try.ntmps32
  go_wp2_with fail
  refine (rnumber_any (RAt.alloc (unhide H) _) size).mono ?_
  rw [(unhide HR).1]
  rintro e w1 ⟨rfl, hS, hF1⟩
  have HS := hide (And.intro hS (((unhide HF).mono (T := (· = p)) (fun _ _ t => t.elim)).trans hF1 (fun _ _ t => t)))
  clear hS hF1 HF H
  go_wp2
  go_ret
  exact ⟨⟨_, rfl, fun hc => by rw [(unhide HR).2 hc]; first | rfl | decide +kernel⟩, unhide HS⟩

theorem nothing1 {w : World} {p g : Nat} {bs : List UInt8} {s : RS} (h : s.At w p g bs) (q : Pc) (hk : q.kind = 1) :
    Calls Try.prog 32 #[.pointer (some ⟨p, 0, none⟩), .agg q.vals] w fun e w' => (∃ b, e = .returned (.bool b) ∧ (s.c ≠ 0 → b = true)) ∧ (stepP bs s q).At w' p g bs ∧ Fr (· = p) w w' := by
  obtain ⟨kind, n, size, x, is, t⟩ := q
  have hk' : kind = 1 := hk
  subst hk'
  rw [show stepP bs s ⟨1, n, size, x, is, t⟩ = (stepR s (.int .i64 0) (oInt bs s.a)).2 from rfl]
  obtain ⟨r, hr1, hr2⟩ : ∃ r : Int, (stepR s (.int .i64 0) (oInt bs s.a)).1 = .int .i64 r ∧ (s.c ≠ 0 → r = 0) := by
    by_cases hc : s.c = 0
    · rcases stepR_cases s (.int .i64 0) (oInt bs s.a) with e | ⟨v, a', e1, e2⟩
      · exact ⟨0, e, fun _ => rfl⟩
      · obtain ⟨m, hm⟩ := oInt_shape e1
        exact ⟨m, e2.trans hm, fun t => absurd hc t⟩
    · exact ⟨0, by rw [stepR_bad hc], fun _ => rfl⟩
  have H := hide h
  have HR := hide (And.intro hr1 hr2)
  have hlt := h.lt
  clear h hk hr1 hr2
  simp only [Pc.vals]
  have HF := hide ((Fr.refl (fun _ => False) w).alloc (.cells #[.int .i64 1, .int .i64 n, .int .i64 size, .float .f64 x, .bool is, .string t] 34))
  go_enter Try.func32, Try.ntmps32
  go_wp2_with fail
  refine (rint_any (RAt.alloc (unhide H) _)).mono ?_
  rw [(unhide HR).1]
  rintro e w1 ⟨rfl, hS, hF1⟩
  have HS := hide (And.intro hS (((unhide HF).mono (T := (· = p)) (fun _ _ t => t.elim)).trans hF1 (fun _ _ t => t)))
  clear hS hF1 HF H
  go_wp2
  go_ret
  exact ⟨⟨_, rfl, fun hc => by rw [(unhide HR).2 hc]; first | rfl | decide +kernel⟩, unhide HS⟩

theorem nothing2 {w : World} {p g : Nat} {bs : List UInt8} {s : RS} (h : s.At w p g bs) (q : Pc) (hk : q.kind = 2) :
    Calls Try.prog 32 #[.pointer (some ⟨p, 0, none⟩), .agg q.vals] w fun e w' => (∃ b, e = .returned (.bool b) ∧ (s.c ≠ 0 → b = true)) ∧ (stepP bs s q).At w' p g bs ∧ Fr (· = p) w w' := by
  obtain ⟨kind, n, size, x, is, t⟩ := q
  have hk' : kind = 2 := hk
  subst hk'
  rw [show stepP bs s ⟨2, n, size, x, is, t⟩ = (stepR s (.float .f64 0) (oFloat bs s.a)).2 from rfl]
  obtain ⟨r, hr1, hr2⟩ : ∃ r : Nat, (stepR s (.float .f64 0) (oFloat bs s.a)).1 = .float .f64 r ∧ (s.c ≠ 0 → r = 0) := by
    by_cases hc : s.c = 0
    · rcases stepR_cases s (.float .f64 0) (oFloat bs s.a) with e | ⟨v, a', e1, e2⟩
      · exact ⟨0, e, fun _ => rfl⟩
      · obtain ⟨m, hm⟩ := oFloat_shape e1
        exact ⟨m, e2.trans hm, fun t => absurd hc t⟩
    · exact ⟨0, by rw [stepR_bad hc], fun _ => rfl⟩
  have H := hide h
  have HR := hide (And.intro hr1 hr2)
  have hlt := h.lt
  have htb := tobits
  clear h hk hr1 hr2
  simp only [Pc.vals]
  have HF := hide ((Fr.refl (fun _ => False) w).alloc (.cells #[.int .i64 2, .int .i64 n, .int .i64 size, .float .f64 x, .bool is, .string t] 34))
  go_enter Try.func32, Try.ntmps32
  go_wp2_with fail
  refine (rfloat_any (RAt.alloc (unhide H) _)).mono ?_
  rw [(unhide HR).1]
  rintro e w1 ⟨rfl, hS, hF1⟩
  have HS := hide (And.intro hS (((unhide HF).mono (T := (· = p)) (fun _ _ t => t.elim)).trans hF1 (fun _ _ t => t)))
  clear hS hF1 HF H
  go_wp2
  go_ret
  exact ⟨⟨_, rfl, fun hc => by rw [(unhide HR).2 hc]; first | rfl | decide +kernel⟩, unhide HS⟩

theorem nothing3 {w : World} {p g : Nat} {bs : List UInt8} {s : RS} (h : s.At w p g bs) (q : Pc) (hk : q.kind = 3) :
    Calls Try.prog 32 #[.pointer (some ⟨p, 0, none⟩), .agg q.vals] w fun e w' => (∃ b, e = .returned (.bool b) ∧ (s.c ≠ 0 → b = true)) ∧ (stepP bs s q).At w' p g bs ∧ Fr (· = p) w w' := by
  obtain ⟨kind, n, size, x, is, t⟩ := q
  have hk' : kind = 3 := hk
  subst hk'
  rw [show stepP bs s ⟨3, n, size, x, is, t⟩ = (stepR s (.bool false) (oBool bs s.a)).2 from rfl]
  obtain ⟨r, hr1, hr2⟩ : ∃ r : Bool, (stepR s (.bool false) (oBool bs s.a)).1 = .bool r ∧ (s.c ≠ 0 → r = false) := by
    by_cases hc : s.c = 0
    · rcases stepR_cases s (.bool false) (oBool bs s.a) with e | ⟨v, a', e1, e2⟩
      · exact ⟨false, e, fun _ => rfl⟩
      · obtain ⟨m, hm⟩ := oBool_shape e1
        exact ⟨m, e2.trans hm, fun t => absurd hc t⟩
    · exact ⟨false, by rw [stepR_bad hc], fun _ => rfl⟩
  have H := hide h
  have HR := hide (And.intro hr1 hr2)
  have hlt := h.lt
  clear h hk hr1 hr2
  simp only [Pc.vals]
  have HF := hide ((Fr.refl (fun _ => False) w).alloc (.cells #[.int .i64 3, .int .i64 n, .int .i64 size, .float .f64 x, .bool is, .string t] 34))
  go_enter Try.func32, Try.ntmps32
  go_wp2_with fail
  refine (rbool_any (RAt.alloc (unhide H) _)).mono ?_
  rw [(unhide HR).1]
  rintro e w1 ⟨rfl, hS, hF1⟩
  have HS := hide (And.intro hS (((unhide HF).mono (T := (· = p)) (fun _ _ t => t.elim)).trans hF1 (fun _ _ t => t)))
  clear hS hF1 HF H
  go_wp2
  go_ret
  exact ⟨⟨_, rfl, fun hc => by rw [(unhide HR).2 hc]; first | rfl | decide +kernel⟩, unhide HS⟩

theorem nothing4 {w : World} {p g : Nat} {bs : List UInt8} {s : RS} (h : s.At w p g bs) (q : Pc) (hk : q.kind = 4) :
    Calls Try.prog 32 #[.pointer (some ⟨p, 0, none⟩), .agg q.vals] w fun e w' => (∃ b, e = .returned (.bool b) ∧ (s.c ≠ 0 → b = true)) ∧ (stepP bs s q).At w' p g bs ∧ Fr (· = p) w w' := by
  obtain ⟨kind, n, size, x, is, t⟩ := q
  have hk' : kind = 4 := hk
  subst hk'
  rw [show stepP bs s ⟨4, n, size, x, is, t⟩ = (stepR s (.string ⟨#[]⟩) (oText bs s.a size)).2 from rfl]
  obtain ⟨r, hr1, hr2⟩ : ∃ r : ByteArray, (stepR s (.string ⟨#[]⟩) (oText bs s.a size)).1 = .string r ∧ (s.c ≠ 0 → r = ⟨#[]⟩) := by
    by_cases hc : s.c = 0
    · rcases stepR_cases s (.string ⟨#[]⟩) (oText bs s.a size) with e | ⟨v, a', e1, e2⟩
      · exact ⟨⟨#[]⟩, e, fun _ => rfl⟩
      · obtain ⟨m, hm⟩ := oText_shape e1
        exact ⟨m, e2.trans hm, fun t => absurd hc t⟩
    · exact ⟨⟨#[]⟩, by rw [stepR_bad hc], fun _ => rfl⟩
  have H := hide h
  have HR := hide (And.intro hr1 hr2)
  have hlt := h.lt
  clear h hk hr1 hr2
  simp only [Pc.vals]
  have HF := hide ((Fr.refl (fun _ => False) w).alloc (.cells #[.int .i64 4, .int .i64 n, .int .i64 size, .float .f64 x, .bool is, .string t] 34))
  go_enter Try.func32, Try.ntmps32
  go_wp2_with fail
  refine (rtext_any (RAt.alloc (unhide H) _) size).mono ?_
  rw [(unhide HR).1]
  rintro e w1 ⟨rfl, hS, hF1⟩
  have HS := hide (And.intro hS (((unhide HF).mono (T := (· = p)) (fun _ _ t => t.elim)).trans hF1 (fun _ _ t => t)))
  clear hS hF1 HF H
  go_wp2
  go_ret
  exact ⟨⟨_, rfl, fun hc => by rw [(unhide HR).2 hc]; first | rfl | decide +kernel⟩, unhide HS⟩

theorem nothing5 {w : World} {p g : Nat} {bs : List UInt8} {s : RS} (h : s.At w p g bs) (q : Pc) (hk : q.kind = 5) :
    Calls Try.prog 32 #[.pointer (some ⟨p, 0, none⟩), .agg q.vals] w fun e w' => (∃ b, e = .returned (.bool b) ∧ (s.c ≠ 0 → b = true)) ∧ (stepP bs s q).At w' p g bs ∧ Fr (· = p) w w' := by
  obtain ⟨kind, n, size, x, is, t⟩ := q
  have hk' : kind = 5 := hk
  subst hk'
  rw [show stepP bs s ⟨5, n, size, x, is, t⟩ = (stepR s (.string ⟨#[]⟩) (oFixed bs s.a size)).2 from rfl]
  obtain ⟨r, hr1, hr2⟩ : ∃ r : ByteArray, (stepR s (.string ⟨#[]⟩) (oFixed bs s.a size)).1 = .string r ∧ (s.c ≠ 0 → r = ⟨#[]⟩) := by
    by_cases hc : s.c = 0
    · rcases stepR_cases s (.string ⟨#[]⟩) (oFixed bs s.a size) with e | ⟨v, a', e1, e2⟩
      · exact ⟨⟨#[]⟩, e, fun _ => rfl⟩
      · obtain ⟨m, hm⟩ := oFixed_shape e1
        exact ⟨m, e2.trans hm, fun t => absurd hc t⟩
    · exact ⟨⟨#[]⟩, by rw [stepR_bad hc], fun _ => rfl⟩
  have H := hide h
  have HR := hide (And.intro hr1 hr2)
  have hlt := h.lt
  clear h hk hr1 hr2
  simp only [Pc.vals]
  have HF := hide ((Fr.refl (fun _ => False) w).alloc (.cells #[.int .i64 5, .int .i64 n, .int .i64 size, .float .f64 x, .bool is, .string t] 34))
  go_enter Try.func32, Try.ntmps32
  go_wp2_with fail
  refine (rfixed_any (RAt.alloc (unhide H) _) size).mono ?_
  rw [(unhide HR).1]
  rintro e w1 ⟨rfl, hS, hF1⟩
  have HS := hide (And.intro hS (((unhide HF).mono (T := (· = p)) (fun _ _ t => t.elim)).trans hF1 (fun _ _ t => t)))
  clear hS hF1 HF H
  go_wp2
  go_ret
  exact ⟨⟨_, rfl, fun hc => by rw [(unhide HR).2 hc]; first | rfl | decide +kernel⟩, unhide HS⟩

theorem nothing6 {w : World} {p g : Nat} {bs : List UInt8} {s : RS} (h : s.At w p g bs) (q : Pc) (hk : q.kind = 6) :
    Calls Try.prog 32 #[.pointer (some ⟨p, 0, none⟩), .agg q.vals] w fun e w' => (∃ b, e = .returned (.bool b) ∧ (s.c ≠ 0 → b = true)) ∧ (stepP bs s q).At w' p g bs ∧ Fr (· = p) w w' := by
  obtain ⟨kind, n, size, x, is, t⟩ := q
  have hk' : kind = 6 := hk
  subst hk'
  rw [show stepP bs s ⟨6, n, size, x, is, t⟩ = (stepR s (.int .i64 0) (oCount bs s.a size)).2 from rfl]
  obtain ⟨r, hr1, hr2⟩ : ∃ r : Int, (stepR s (.int .i64 0) (oCount bs s.a size)).1 = .int .i64 r ∧ (s.c ≠ 0 → r = 0) := by
    by_cases hc : s.c = 0
    · rcases stepR_cases s (.int .i64 0) (oCount bs s.a size) with e | ⟨v, a', e1, e2⟩
      · exact ⟨0, e, fun _ => rfl⟩
      · obtain ⟨m, hm⟩ := oCount_shape e1
        exact ⟨m, e2.trans hm, fun t => absurd hc t⟩
    · exact ⟨0, by rw [stepR_bad hc], fun _ => rfl⟩
  have H := hide h
  have HR := hide (And.intro hr1 hr2)
  have hlt := h.lt
  clear h hk hr1 hr2
  simp only [Pc.vals]
  have HF := hide ((Fr.refl (fun _ => False) w).alloc (.cells #[.int .i64 6, .int .i64 n, .int .i64 size, .float .f64 x, .bool is, .string t] 34))
  go_enter Try.func32, Try.ntmps32
  go_wp2_with fail
  refine (rcount_any (RAt.alloc (unhide H) _) size).mono ?_
  rw [(unhide HR).1]
  rintro e w1 ⟨rfl, hS, hF1⟩
  have HS := hide (And.intro hS (((unhide HF).mono (T := (· = p)) (fun _ _ t => t.elim)).trans hF1 (fun _ _ t => t)))
  clear hS hF1 HF H
  go_wp2
  go_ret
  exact ⟨⟨_, rfl, fun hc => by rw [(unhide HR).2 hc]; first | rfl | decide +kernel⟩, unhide HS⟩

theorem nothing_not {w : World} {p g : Nat} {bs : List UInt8} {s : RS} (h : s.At w p g bs) (q : Pc) (hk : q.kind < 0 ∨ 6 < q.kind) :
    Calls Try.prog 32 #[.pointer (some ⟨p, 0, none⟩), .agg q.vals] w fun e w' => (∃ b, e = .returned (.bool b) ∧ (s.c ≠ 0 → b = true)) ∧ (stepP bs s q).At w' p g bs ∧ Fr (· = p) w w' := by
  have e1 : stepP bs s q = s := by
    unfold stepP
    rw [if_neg (by omega), if_neg (by omega), if_neg (by omega), if_neg (by omega), if_neg (by omega), if_neg (by omega), if_neg (by omega)]
  rw [e1]
  clear e1
  obtain ⟨kind, n, size, x, is, t⟩ := q
  have hk' : kind < 0 ∨ 6 < kind := hk
  have H := hide h
  have h0 : (kind == 0) = false := by simp; omega
  have h1 : (kind == 1) = false := by simp; omega
  have h2 : (kind == 2) = false := by simp; omega
  have h3 : (kind == 3) = false := by simp; omega
  have h4 : (kind == 4) = false := by simp; omega
  have h5 : (kind == 5) = false := by simp; omega
  have h6 : (kind == 6) = false := by simp; omega
  clear h hk hk'
  simp only [Pc.vals]
  go_enter Try.func32, Try.ntmps32
  go_wp2
  go_ret
  exact ⟨⟨_, rfl, fun _ => rfl⟩, RAt.alloc (unhide H) _, (Fr.refl _ _).alloc _⟩

/-- The law's nothing. -/
theorem nothing_any {w : World} {p g : Nat} {bs : List UInt8} {s : RS} (h : s.At w p g bs) (q : Pc) :
    Calls Try.prog 32 #[.pointer (some ⟨p, 0, none⟩), .agg q.vals] w fun e w' => (∃ b, e = .returned (.bool b) ∧ (s.c ≠ 0 → b = true)) ∧ (stepP bs s q).At w' p g bs ∧ Fr (· = p) w w' := by
  by_cases hk : q.kind < 0 ∨ 6 < q.kind
  · exact nothing_not h q hk
  have hk2 : q.kind = 0 ∨ q.kind = 1 ∨ q.kind = 2 ∨ q.kind = 3 ∨ q.kind = 4 ∨ q.kind = 5 ∨ q.kind = 6 := by omega
  rcases hk2 with hk2 | hk2 | hk2 | hk2 | hk2 | hk2 | hk2
  · exact nothing0 h q hk2
  · exact nothing1 h q hk2
  · exact nothing2 h q hk2
  · exact nothing3 h q hk2
  · exact nothing4 h q hk2
  · exact nothing5 h q hk2
  · exact nothing6 h q hk2

end Go.Proofs.Ytdbmojiplfkniaa
