import Derived.Test.YtabhfeocelljdaaGreatDoorC5
/- The document's reader (package fareboxref01): what it is in memory ('XAt'), and the contracts of its inner functions bad, has, some, number, took. -/
namespace Go.Proofs.YtabhfeocelljdaaGreatDoor
open Go.RowKit

/-- The document's reader in memory, in block p; its bytes are the slice (ao, cap). -/
structure XAt (w : World) (p : Nat) (ao : Option Addr) (cap : Nat) (bs : List UInt8) (s : RS) : Prop where
  c0 : w.cell? ⟨p, 0, none⟩ = some (.slice ao bs.length cap)
  c1 : w.cell? ⟨p, 1, none⟩ = some (.int .i64 s.a)
  c2 : w.cell? ⟨p, 2, none⟩ = some (.int .i64 s.l)
  c3 : w.cell? ⟨p, 3, none⟩ = some (.int .i64 s.c)
  c4 : w.cell? ⟨p, 4, none⟩ = some (.int .i64 s.f)
  fz : ∀ i, i < 5 → w.frozen? ⟨p, i, none⟩ = false
  row : 0 < bs.length → ∃ b off, ao = some ⟨b, off, none⟩ ∧ b ≠ p ∧ ∀ j (hj : j < bs.length), w.cell? ⟨b, off + j, none⟩ = some (.int .u8 (bs[j].toNat))
  le : s.a ≤ bs.length
  small : bs.length ≤ 140737488355328
  lc : bs.length ≤ cap
  cm : cap ≤ 9223372036854775807

theorem XAt.lt {w : World} {p : Nat} {ao : Option Addr} {cap : Nat} {bs : List UInt8} {s : RS} (h : XAt w p ao cap bs s) : p < w.heap.size := World.block_lt_of_cell? _ _ h.c1

theorem XAt.stay {w w' : World} {p : Nat} {ao : Option Addr} {cap : Nat} {bs : List UInt8} {s : RS} (h : XAt w p ao cap bs s) (hp : w'.heap[p]? = w.heap[p]?)
    (hb : ∀ b off, ao = some ⟨b, off, none⟩ → 0 < bs.length → b < w.heap.size → w'.heap[b]? = w.heap[b]?) : XAt w' p ao cap bs s := by
  have e : ∀ i, w'.cell? ⟨p, i, none⟩ = w.cell? ⟨p, i, none⟩ := fun i => World.cell?_of_block (a := ⟨p, i, none⟩) hp
  have e' : ∀ i, w'.frozen? ⟨p, i, none⟩ = w.frozen? ⟨p, i, none⟩ := fun i => World.frozen?_of_block (a := ⟨p, i, none⟩) hp
  refine ⟨(e 0).trans h.c0, (e 1).trans h.c1, (e 2).trans h.c2, (e 3).trans h.c3, (e 4).trans h.c4, fun i hi => (e' i).trans (h.fz i hi), fun h0 => ?_, h.le, h.small, h.lc, h.cm⟩
  obtain ⟨b, off, e1, e2, hc⟩ := h.row h0
  refine ⟨b, off, e1, e2, fun j hj => ?_⟩
  have hg := World.block_lt_of_cell? _ _ (hc j hj)
  exact (World.cell?_of_block (a := ⟨b, off + j, none⟩) (hb b off e1 h0 hg)).trans (hc j hj)

theorem XAt.alloc {w : World} {p : Nat} {ao : Option Addr} {cap : Nat} {bs : List UInt8} {s : RS} (h : XAt w p ao cap bs s) (o : Obj) : XAt (w.alloc o) p ao cap bs s :=
  h.stay (Below.heap_alloc _ _ _ h.lt) fun _ _ _ _ hlt => Below.heap_alloc _ _ _ hlt

theorem XAt.drewN {w : World} {p : Nat} {ao : Option Addr} {cap : Nat} {bs : List UInt8} {s : RS} (h : XAt w p ao cap bs s) (n : Nat) : XAt (w.drewN n) p ao cap bs s :=
  h.stay rfl fun _ _ _ _ _ => rfl

/-- A cell of its own is set. -/
theorem XAt.set {w : World} {p : Nat} {ao : Option Addr} {cap : Nat} {bs : List UInt8} {s : RS} (h : XAt w p ao cap bs s) (i : Nat) (v : Value) (s' : RS)
    (h1 : if i = 1 then v = .int .i64 s'.a else s'.a = s.a) (h2 : if i = 2 then v = .int .i64 s'.l else s'.l = s.l) (h3 : if i = 3 then v = .int .i64 s'.c else s'.c = s.c) (h4 : if i = 4 then v = .int .i64 s'.f else s'.f = s.f)
    (h0 : i ≠ 0) (hle : s'.a ≤ bs.length) : XAt (w.setCell ⟨p, i, none⟩ v) p ao cap bs s' := by
  have e : ∀ b k, ¬ (b = p ∧ k = i) → (w.setCell ⟨p, i, none⟩ v).cell? ⟨b, k, none⟩ = w.cell? ⟨b, k, none⟩ := fun b k hi => World.cell?_setCell_other _ _ _ _ (by intro h; injection h with h1 h2; exact hi ⟨h1.symm, h2.symm⟩)
  have key : ∀ k u u', w.cell? ⟨p, k, none⟩ = some (.int .i64 u) → (if i = k then v = .int .i64 u' else u' = u) → (w.setCell ⟨p, i, none⟩ v).cell? ⟨p, k, none⟩ = some (.int .i64 u') := by
    intro k u u' hk hi
    by_cases hik : i = k
    · subst hik
      rw [if_pos rfl] at hi
      subst hi
      exact World.cell?_setCell_same _ _ _ hk
    · rw [if_neg hik] at hi
      subst hi
      exact (e _ _ (by omega)).trans hk
  refine ⟨(e _ _ (by omega)).trans h.c0, key 1 _ _ h.c1 (by split at h1 <;> simp_all), key 2 _ _ h.c2 (by split at h2 <;> simp_all), key 3 _ _ h.c3 h3, key 4 _ _ h.c4 h4, fun k hk => by rw [World.frozen?_setCell]; exact h.fz k hk, fun hl => ?_, hle, h.small, h.lc, h.cm⟩
  obtain ⟨b, off, e1, e2, hc⟩ := h.row hl
  exact ⟨b, off, e1, e2, fun j hj => (e _ _ (by omega)).trans (hc j hj)⟩

section
variable {w : World} {p : Nat} {ao : Option Addr} {cap : Nat} {bs : List UInt8} {s : RS}

/-- bad: the state behind it. -/
def badR (s : RS) (x : Int) : RS := if s.c = 0 then { s with c := x, f := s.a } else s

theorem xbad (h : XAt w p ao cap bs s) (x : Int) :
    Calls Tryz.prog 65 #[.pointer (some ⟨p, 0, none⟩), .int .i64 x] w fun e w' => e = .returned (.tuple #[]) ∧ XAt w' p ao cap bs (badR s x) ∧ Fr (· = p) w w' := by
  have H := hide h
  have c1 := h.c1
  have c3 := h.c3
  have c4 := h.c4
  have f3 := h.fz 3 (by omega)
  have f4 := h.fz 4 (by omega)
  have hlt := h.lt
  clear h
  by_cases hc : s.c = 0
  · rw [show badR s x = { s with c := x, f := s.a } by simp [badR, hc]]
    have hc' : (s.c == 0) = true := by simp [hc]
    have HC := hide hc
    clear hc
    go_enter Tryz.func65, Tryz.ntmps65
    go_wp2
    go_end0
    exact ⟨rfl, ((unhide H).set 3 _ { s with c := x } rfl rfl rfl rfl (by omega) (unhide H).le).set 4 _ { s with c := x, f := s.a } rfl rfl rfl rfl (by omega) (unhide H).le, ((Fr.refl (· = p) w).setCell (p := ⟨p, 3, none⟩) (fun _ => rfl) _).setCell (p := ⟨p, 4, none⟩) (fun _ => rfl) _⟩
  · rw [show badR s x = s by simp [badR, hc]]
    have hc' : (s.c == 0) = false := by simp [hc]
    have HC := hide hc
    clear hc
    go_enter Tryz.func65, Tryz.ntmps65
    go_wp2
    go_end0
    exact ⟨rfl, unhide H, Fr.refl _ _⟩

theorem xtook (h : XAt w p ao cap bs s) (n : Nat) (hn : s.a + n ≤ bs.length) :
    Calls Tryz.prog 68 #[.pointer (some ⟨p, 0, none⟩), .int .i64 n] w fun e w' => e = .returned (.tuple #[]) ∧ XAt w' p ao cap bs { s with a := s.a + n, l := s.a } ∧ Fr (· = p) w w' := by
  have H := hide h
  have c1 := h.c1
  have c2 := h.c2
  have f1 := h.fz 1 (by omega)
  have f2 := h.fz 2 (by omega)
  have hlt := h.lt
  have hsm := h.small
  clear h
  go_enter Tryz.func68, Tryz.ntmps68
  go_wp2
  go_end0
  exact ⟨rfl, ((unhide H).set 2 _ { s with l := s.a } rfl rfl rfl rfl (by omega) (unhide H).le).set 1 _ { s with a := s.a + n, l := s.a } (by simp) rfl rfl rfl (by omega) hn, ((Fr.refl (· = p) w).setCell (p := ⟨p, 2, none⟩) (fun _ => rfl) _).setCell (p := ⟨p, 1, none⟩) (fun _ => rfl) _⟩

theorem xhas (h : XAt w p ao cap bs s) (k : Nat) (hk : k ≤ 2) (n : Int) :
    Calls Tryz.prog 69 #[.pointer (some ⟨p, 0, none⟩), .int .i64 k, .int .i64 n] w fun e w' => e = .returned (.bool (decide (n ≤ (bs.length : Int) - s.a - k))) ∧ ∃ j, w' = w.drewN j := by
  have c0 := h.c0
  have c1 := h.c1
  have hsm := h.small
  have hle := h.le
  have hlt := h.lt
  clear h
  go_enter Tryz.func69, Tryz.ntmps69
  go_wp2
  go_quiet (fail)
  go_wp2
  go_ret
  exact ⟨rfl, nq, rfl⟩

theorem xsome_ok (h : XAt w p ao cap bs s) (n : Int) (hc : s.c = 0) (hn : n ≤ (bs.length : Int) - s.a) :
    Calls Tryz.prog 66 #[.pointer (some ⟨p, 0, none⟩), .int .i64 n] w fun e w' => e = .returned (.bool true) ∧ XAt w' p ao cap bs s ∧ Fr (· = p) w w' := by
  have H := hide h
  have c3 := h.c3
  have hlt := h.lt
  clear h
  have hc' : (s.c != 0) = false := by simp [hc]
  have hd : decide (n ≤ (bs.length : Int) - s.a - (0 : Nat)) = true := by simp; omega
  have HC := hide (And.intro hc hn)
  clear hc hn
  go_enter Tryz.func66, Tryz.ntmps66
  go_wp2_with fail
  refine (xhas (unhide H) 0 (by omega) n).mono ?_
  rw [hd]
  rintro e w1 ⟨rfl, j, rfl⟩
  go_wp2
  go_ret
  exact ⟨rfl, (unhide H).drewN j, (Fr.refl _ _).drewN j⟩

theorem xsome_no (h : XAt w p ao cap bs s) (n : Int) (hn : s.c = 0 → (bs.length : Int) - s.a < n) :
    Calls Tryz.prog 66 #[.pointer (some ⟨p, 0, none⟩), .int .i64 n] w fun e w' => e = .returned (.bool false) ∧ XAt w' p ao cap bs (badR s 10) ∧ Fr (· = p) w w' := by
  have H := hide h
  have c3 := h.c3
  have hlt := h.lt
  clear h
  by_cases hc : s.c = 0
  · have hc' : (s.c != 0) = false := by simp [hc]
    have hd : decide (n ≤ (bs.length : Int) - s.a - (0 : Nat)) = false := by simp; have := hn hc; omega
    have HC := hide (And.intro hc hn)
    clear hc hn
    go_enter Tryz.func66, Tryz.ntmps66
    go_wp2_with fail
    refine (xhas (unhide H) 0 (by omega) n).mono ?_
    rw [hd]
    rintro e w1 ⟨rfl, j, rfl⟩
    have H1 := hide ((unhide H).drewN j)
    go_wp2_with fail
    refine (xbad (unhide H1) 10).mono ?_
    rintro e w2 ⟨rfl, hX, hF⟩
    have H2 := hide (And.intro hX (((Fr.refl (· = p) w).drewN j).trans hF (fun _ _ t => t)))
    clear hX hF
    go_wp2
    go_ret
    exact ⟨rfl, unhide H2⟩
  · rw [show badR s 10 = s by simp [badR, hc]]
    have hc' : (s.c != 0) = true := by simp [hc]
    have HC := hide hc
    clear hc hn
    go_enter Tryz.func66, Tryz.ntmps66
    go_wp2
    go_ret
    exact ⟨rfl, unhide H, Fr.refl _ _⟩

theorem xnumber (h : XAt w p ao cap bs s) (k : Nat) (hk : s.a + k ≤ bs.length) (hk8 : k ≤ 8) :
    Calls Tryz.prog 67 #[.pointer (some ⟨p, 0, none⟩), .int .i64 0, .int .i64 k] w fun e w' => e = .returned (.int .u64 (num ((bs.drop s.a).take k))) ∧ ∃ j, w' = w.drewN j := by
  have H := hide h
  have c0 := h.c0
  have c1 := h.c1
  have hsm := h.small
  have hlc := h.lc
  have hlt := h.lt
  clear h
  go_enter Tryz.func67, Tryz.ntmps67
  go_wp2
  go_loopw [7, 8] (fun nv i wr => ∃ j : Nat, j ≤ k ∧ i = .int .i64 j ∧ nv = .int .u64 (num ((bs.drop s.a).take j)) ∧ ∃ d, wr = w.drewN d) (fun _ i _ => k - (intOf i).toNat)
  case atStart => exact ⟨0, Nat.zero_le _, rfl, rfl, 0, rfl⟩
  case round =>
    obtain ⟨j, hj, rfl, rfl, d, rfl⟩ := hrel
    by_cases hjk : j < k
    · obtain ⟨b, off, rfl, hbp, hrow⟩ := (unhide H).row (by omega)
      have hL : s.a + j < bs.length := by omega
      have hcj := hrow (s.a + j) hL
      have HS : Hid (num ((bs.drop s.a).take (j + 1)) = num ((bs.drop s.a).take j) * 256 + bs[s.a + j].toNat) := by
        show _ = _
        rw [take_more _ _ (by rw [List.length_drop]; omega), num_snoc, List.getElem_drop]
      have hs7 := pow56 ((bs.drop s.a).take j) (by have := List.length_take_le j (bs.drop s.a); omega)
      have hbyte := UInt8.toNat_lt bs[s.a + j]
      clear hrow
      go_wp2
      go_quiet (fail)
      go_wp2
      refine ⟨⟨j + 1, by omega, by go_num, ?_, d + nq, by rw [← World.drewN_drewN]⟩, by simp [intOf]; omega⟩
      rw [unhide HS]
      congr 1
    · obtain rfl : j = k := by omega
      go_wp2
      go_ret
      exact ⟨rfl, d, rfl⟩

end
end Go.Proofs.YtabhfeocelljdaaGreatDoor

/- The document's reader: contracts of its calls. Each answers, and leaves the reader, as the program's own reader does ('stepR'). -/
namespace Go.Proofs.YtabhfeocelljdaaGreatDoor
open Go.RowKit

theorem badR_c (s : RS) {x : Int} (hx : x ≠ 0) : (badR s x).c ≠ 0 := by
  unfold badR; split
  · exact hx
  · assumption

theorem badR_bad {s : RS} (hc : s.c ≠ 0) (y : Int) : badR s y = s := by simp [badR, hc]

theorem stepR_error (s : RS) (z : Value) (x : Int) : stepR s z (.error x) = (z, badR s x) := by
  unfold stepR badR; split <;> rfl

theorem stepR_short {s : RS} {o : Except Int (Value × Nat)} (z : Value) (h : s.c = 0 → o = .error 10) : stepR s z o = (z, badR s 10) := by
  by_cases hc : s.c = 0
  · rw [h hc, stepR_error]
  · rw [stepR_bad hc, badR_bad hc]

theorem stepR_ok {s : RS} (z v : Value) (n : Nat) (hc : s.c = 0) : stepR s z (.ok (v, s.a + n)) = (v, { s with a := s.a + n, l := s.a }) := by
  obtain ⟨a, l, c, f⟩ := s
  have hc' : c = 0 := hc
  subst hc'
  simp [stepR]

/-- What a call of the document's reader promises. -/
def XDone (p : Nat) (ao : Option Addr) (cap : Nat) (bs : List UInt8) (w : World) (r : Value × RS) (e : Ending) (w' : World) : Prop :=
  e = .returned r.1 ∧ XAt w' p ao cap bs r.2 ∧ Fr (· = p) w w'

section
variable {w : World} {p : Nat} {ao : Option Addr} {cap : Nat} {bs : List UInt8} {s : RS}

theorem xNumber (h : XAt w p ao cap bs s) (size : Int) :
    Calls Tryz.prog 33 #[.pointer (some ⟨p, 0, none⟩), .int .i64 size] w (XDone p ao cap bs w (stepR s (.int .i64 0) (oNumber bs s.a size))) := by
  have H := hide h
  clear h
  by_cases h1 : size < 1 ∨ 8 < size
  · rw [show oNumber bs s.a size = .error 1 by simp [oNumber, h1], stepR_error]
    go_enter Tryz.func33, Tryz.ntmps33
    rcases h1 with h1 | h1
    · have hd : decide (size < 1) = true := by simp; omega
      go_wp2_with fail
      refine (xbad (unhide H) 1).mono ?_
      rintro e w1 ⟨rfl, hX, hF⟩
      have H1 := hide (And.intro hX hF)
      clear hX hF
      go_wp2_with fail
      refine (xsome_no (unhide H1).1 size (fun t => absurd t (badR_c s (by decide)))).mono ?_
      rw [badR_bad (badR_c s (by decide))]
      rintro e w2 ⟨rfl, hX, hF⟩
      have H2 := hide (And.intro hX ((unhide H1).2.trans hF (fun _ _ t => t)))
      clear hX hF H1
      go_wp2
      go_ret
      exact ⟨rfl, unhide H2⟩
    · have hd : decide (size < 1) = false := by simp; omega
      have hd2 : decide (8 < size) = true := by simp; omega
      go_wp2_with fail
      refine (xbad (unhide H) 1).mono ?_
      rintro e w1 ⟨rfl, hX, hF⟩
      have H1 := hide (And.intro hX hF)
      clear hX hF
      go_wp2_with fail
      refine (xsome_no (unhide H1).1 size (fun t => absurd t (badR_c s (by decide)))).mono ?_
      rw [badR_bad (badR_c s (by decide))]
      rintro e w2 ⟨rfl, hX, hF⟩
      have H2 := hide (And.intro hX ((unhide H1).2.trans hF (fun _ _ t => t)))
      clear hX hF H1
      go_wp2
      go_ret
      exact ⟨rfl, unhide H2⟩
  obtain ⟨k, rfl⟩ : ∃ k : Nat, size = k := ⟨size.toNat, by omega⟩
  have hd : decide ((k : Int) < 1) = false := by simp; omega
  have hd2 : decide (8 < (k : Int)) = false := by simp; omega
  by_cases h2 : s.c = 0 → (bs.length : Int) - s.a < k
  · rw [stepR_short _ (fun hc => show oNumber bs s.a k = .error 10 by simp [oNumber, h1, h2 hc])]
    have H2 := hide h2
    clear h1 h2
    go_enter Tryz.func33, Tryz.ntmps33
    go_wp2_with fail
    refine (xsome_no (unhide H) k (unhide H2)).mono ?_
    rintro e w2 ⟨rfl, hX, hF⟩
    have H3 := hide (And.intro hX hF)
    clear hX hF
    go_wp2
    go_ret
    exact ⟨rfl, unhide H3⟩
  have hc : s.c = 0 := by
    by_cases hc : s.c = 0
    · exact hc
    · exact absurd (fun t => absurd t hc) h2
  have h3 : ¬ (bs.length : Int) - s.a < k := fun t => h2 (fun _ => t)
  have hle := (unhide H).le
  have ht : s.a + k ≤ bs.length ∧ k ≤ 8 := by omega
  obtain ⟨N, HN⟩ : ∃ N, Hid (num ((bs.drop s.a).take k) = N) := ⟨_, rfl⟩
  have e1 : oNumber bs s.a k = if 9223372036854775807 < N then .error 11 else .ok (.int .i64 N, s.a + k) := by rw [← unhide HN]; simp [oNumber, h1, h3]
  have hq : (k : Int) ≤ (bs.length : Int) - s.a := by omega
  have HC := hide hc
  clear h1 h2 h3 hc
  by_cases h4 : 9223372036854775807 < N
  · rw [e1, if_pos h4, stepR_error]
    clear e1
    have h4' : decide ((9223372036854775808 : Int) ≤ N) = true := by simp; omega
    have H4 := hide h4
    clear h4
    go_enter Tryz.func33, Tryz.ntmps33
    go_wp2_with fail
    refine (xsome_ok (unhide H) k (unhide HC) hq).mono ?_
    rintro e w1 ⟨rfl, hX, hF⟩
    have H1 := hide (And.intro hX hF)
    clear hX hF
    go_wp2_with fail
    refine (xnumber (unhide H1).1 k ht.1 ht.2).mono ?_
    rw [unhide HN]
    rintro e w2 ⟨rfl, j, rfl⟩
    go_wp2_with fail
    refine (xbad ((unhide H1).1.drewN j) 11).mono ?_
    rintro e w3 ⟨rfl, hX, hF⟩
    have H2 := hide (And.intro hX (((unhide H1).2.drewN j).trans hF (fun _ _ t => t)))
    clear hX hF H1
    go_wp2
    go_ret
    exact ⟨rfl, unhide H2⟩
  · rw [e1, if_neg h4, stepR_ok _ _ _ (unhide HC)]
    clear e1
    have h4' : decide ((9223372036854775808 : Int) ≤ N) = false := by simp; omega
    have h5 : (N : Int) ≤ 9223372036854775807 := by omega
    clear h4
    go_enter Tryz.func33, Tryz.ntmps33
    go_wp2_with fail
    refine (xsome_ok (unhide H) k (unhide HC) hq).mono ?_
    rintro e w1 ⟨rfl, hX, hF⟩
    have H1 := hide (And.intro hX hF)
    clear hX hF
    go_wp2_with fail
    refine (xnumber (unhide H1).1 k ht.1 ht.2).mono ?_
    rw [unhide HN]
    rintro e w2 ⟨rfl, j, rfl⟩
    go_wp2_with fail
    refine (xtook ((unhide H1).1.drewN j) k ht.1).mono ?_
    rintro e w3 ⟨rfl, hX, hF⟩
    have H2 := hide (And.intro hX (((unhide H1).2.drewN j).trans hF (fun _ _ t => t)))
    clear hX hF H1
    go_wp2
    go_ret
    exact ⟨rfl, unhide H2⟩

end
end Go.Proofs.YtabhfeocelljdaaGreatDoor

/- The document's reader, the other calls. -/
namespace Go.Proofs.YtabhfeocelljdaaGreatDoor
open Go.RowKit

section
variable {w : World} {p : Nat} {ao : Option Addr} {cap : Nat} {bs : List UInt8} {s : RS}

theorem xCount (h : XAt w p ao cap bs s) (most : Int) :
    Calls Tryz.prog 34 #[.pointer (some ⟨p, 0, none⟩), .int .i64 most] w (XDone p ao cap bs w (stepR s (.int .i64 0) (oCount bs s.a most))) := by
  have H := hide h
  clear h
  by_cases h1 : most < 0
  · rw [show oCount bs s.a most = .error 1 by simp [oCount, h1], stepR_error]
    have hd : decide (most < 0) = true := by simp; omega
    go_enter Tryz.func34, Tryz.ntmps34
    go_wp2_with fail
    refine (xbad (unhide H) 1).mono ?_
    rintro e w1 ⟨rfl, hX, hF⟩
    have H1 := hide (And.intro hX hF)
    clear hX hF
    go_wp2_with fail
    refine (xsome_no (unhide H1).1 2 (fun t => absurd t (badR_c s (by decide)))).mono ?_
    rw [badR_bad (badR_c s (by decide))]
    rintro e w2 ⟨rfl, hX, hF⟩
    have H2 := hide (And.intro hX ((unhide H1).2.trans hF (fun _ _ t => t)))
    clear hX hF H1
    go_wp2
    go_ret
    exact ⟨rfl, unhide H2⟩
  have hd : decide (most < 0) = false := by simp; omega
  by_cases h2 : s.c = 0 → (bs.length : Int) - s.a < 2
  · rw [stepR_short _ (fun hc => show oCount bs s.a most = .error 10 by simp [oCount, h1, h2 hc])]
    have H2 := hide h2
    clear h1 h2
    go_enter Tryz.func34, Tryz.ntmps34
    go_wp2_with fail
    refine (xsome_no (unhide H) 2 (unhide H2)).mono ?_
    rintro e w2 ⟨rfl, hX, hF⟩
    have H3 := hide (And.intro hX hF)
    clear hX hF
    go_wp2
    go_ret
    exact ⟨rfl, unhide H3⟩
  have hc : s.c = 0 := by
    by_cases hc : s.c = 0
    · exact hc
    · exact absurd (fun t => absurd t hc) h2
  have h3 : ¬ (bs.length : Int) - s.a < 2 := fun t => h2 (fun _ => t)
  have hle := (unhide H).le
  have ht : s.a + 2 ≤ bs.length := by omega
  obtain ⟨N, HN⟩ : ∃ N, Hid (num ((bs.drop s.a).take 2) = N) := ⟨_, rfl⟩
  have hN : N < 65536 := by
    rw [← unhide HN]
    refine Nat.lt_of_lt_of_le (num_lt _) (Nat.le_trans (Nat.pow_le_pow_right (by omega) (List.length_take_le 2 _)) (by decide))
  have hq : (2 : Int) ≤ (bs.length : Int) - s.a := by omega
  have e1 : oCount bs s.a most = if most < N then .error 12 else .ok (.int .i64 N, s.a + 2) := by unfold oCount; rw [if_neg h1, if_neg h3, unhide HN]
  have HC := hide hc
  clear h1 h2 h3 hc
  by_cases h4 : most < N
  · rw [e1, if_pos h4, stepR_error]
    clear e1
    have h4' : decide (most < (N : Int)) = true := by simp; omega
    have H4 := hide h4
    clear h4
    go_enter Tryz.func34, Tryz.ntmps34
    go_wp2_with fail
    refine (xsome_ok (unhide H) 2 (unhide HC) hq).mono ?_
    rintro e w1 ⟨rfl, hX, hF⟩
    have H1 := hide (And.intro hX hF)
    clear hX hF
    go_wp2_with fail
    refine (xnumber (unhide H1).1 2 ht (by omega)).mono ?_
    rw [unhide HN]
    rintro e w2 ⟨rfl, j, rfl⟩
    go_wp2_with fail
    refine (xbad ((unhide H1).1.drewN j) 12).mono ?_
    rintro e w3 ⟨rfl, hX, hF⟩
    have H2 := hide (And.intro hX (((unhide H1).2.drewN j).trans hF (fun _ _ t => t)))
    clear hX hF H1
    go_wp2
    go_ret
    exact ⟨rfl, unhide H2⟩
  · rw [e1, if_neg h4, stepR_ok _ _ _ (unhide HC)]
    clear e1
    have h4' : decide (most < (N : Int)) = false := by simp; omega
    have H4 := hide h4
    clear h4
    go_enter Tryz.func34, Tryz.ntmps34
    go_wp2_with fail
    refine (xsome_ok (unhide H) 2 (unhide HC) hq).mono ?_
    rintro e w1 ⟨rfl, hX, hF⟩
    have H1 := hide (And.intro hX hF)
    clear hX hF
    go_wp2_with fail
    refine (xnumber (unhide H1).1 2 ht (by omega)).mono ?_
    rw [unhide HN]
    rintro e w2 ⟨rfl, j, rfl⟩
    go_wp2_with fail
    refine (xtook ((unhide H1).1.drewN j) 2 ht).mono ?_
    rintro e w3 ⟨rfl, hX, hF⟩
    have H2 := hide (And.intro hX (((unhide H1).2.drewN j).trans hF (fun _ _ t => t)))
    clear hX hF H1
    go_wp2
    go_ret
    exact ⟨rfl, unhide H2⟩

end
end Go.Proofs.YtabhfeocelljdaaGreatDoor

/- The document's reader: End, Fixed, Text. -/
namespace Go.Proofs.YtabhfeocelljdaaGreatDoor
open Go.RowKit

section
variable {w : World} {p : Nat} {ao : Option Addr} {cap : Nat} {bs : List UInt8} {s : RS}

/-- A part of the reader's bytes, as a string. -/
theorem conv_x (h : XAt w p ao cap bs s) (A : Option Addr) (o k c : Nat) (hs : o + k ≤ bs.length) (hA : 0 < k → A = ao.map (·.add o)) :
    (convert 23 9 (.slice A k c)).run Tryz.prog w = .ok (.string ⟨((bs.drop o).take k).toArray⟩) w := by
  by_cases hk : 0 < k
  · obtain ⟨b, off, e1, e2, hc⟩ := h.row (by omega)
    subst e1
    rw [hA hk]
    have hL : ((bs.drop o).take k).length = k := by simp; omega
    have := run_convert_bytes_back (P := Tryz.prog) w 23 9 5 ⟨b, off + o, none⟩ c ((bs.drop o).take k) Tryz.underlying23 Tryz.underlying5 Tryz.underlying9 (fun j hj => by
      have hplain : (⟨b, off + o, none⟩ : Addr).add j = ⟨b, off + (o + j), none⟩ := by unfold Addr.add; split <;> simp_all [Nat.add_assoc]
      rw [hplain, hc (o + j) (by omega)]
      simp [List.getElem_take, List.getElem_drop])
    have hpl : (some (⟨b, off, none⟩ : Addr)).map (·.add o) = some ⟨b, off + o, none⟩ := by simp only [Option.map_some, Addr.add]; split <;> simp_all
    rw [hpl]
    generalize ((bs.drop o).take k) = L at this hL ⊢
    subst hL
    exact this
  · obtain rfl : k = 0 := by omega
    cases A with
    | none =>
      rw [run_convert_bytes_nil w 23 5 Tryz.underlying23 Tryz.underlying5 0 c 9 Tryz.underlying9]
      simp; rfl
    | some x =>
      have := run_convert_bytes_back (P := Tryz.prog) w 23 9 5 x c [] Tryz.underlying23 Tryz.underlying5 Tryz.underlying9 (fun j hj => by simp at hj)
      simpa using this

end
end Go.Proofs.YtabhfeocelljdaaGreatDoor

/- The document's reader: Text, End. -/
namespace Go.Proofs.YtabhfeocelljdaaGreatDoor
open Go.RowKit

section
variable {w : World} {p : Nat} {ao : Option Addr} {cap : Nat} {bs : List UInt8} {s : RS}

theorem xText (h : XAt w p ao cap bs s) (most : Int) :
    Calls Tryz.prog 35 #[.pointer (some ⟨p, 0, none⟩), .int .i64 most] w (XDone p ao cap bs w (stepR s (.string ⟨#[]⟩) (oText bs s.a most))) := by
  have H := hide h
  clear h
  by_cases h1 : most < 0
  · rw [show oText bs s.a most = .error 1 by simp [oText, h1], stepR_error]
    have hd : decide (most < 0) = true := by simp; omega
    go_enter Tryz.func35, Tryz.ntmps35
    go_wp2_with fail
    refine (xbad (unhide H) 1).mono ?_
    rintro e w1 ⟨rfl, hX, hF⟩
    have H1 := hide (And.intro hX hF)
    clear hX hF
    go_wp2_with fail
    refine (xsome_no (unhide H1).1 2 (fun t => absurd t (badR_c s (by decide)))).mono ?_
    rw [badR_bad (badR_c s (by decide))]
    rintro e w2 ⟨rfl, hX, hF⟩
    have H2 := hide (And.intro hX ((unhide H1).2.trans hF (fun _ _ t => t)))
    clear hX hF H1
    go_wp2
    go_ret
    exact ⟨rfl, unhide H2⟩
  have hd : decide (most < 0) = false := by simp; omega
  by_cases h2 : s.c = 0 → (bs.length : Int) - s.a < 2
  · rw [stepR_short _ (fun hc => show oText bs s.a most = .error 10 by simp [oText, h1, h2 hc])]
    have H2 := hide h2
    clear h1 h2
    go_enter Tryz.func35, Tryz.ntmps35
    go_wp2_with fail
    refine (xsome_no (unhide H) 2 (unhide H2)).mono ?_
    rintro e w2 ⟨rfl, hX, hF⟩
    have H3 := hide (And.intro hX hF)
    clear hX hF
    go_wp2
    go_ret
    exact ⟨rfl, unhide H3⟩
  have hc : s.c = 0 := by
    by_cases hc : s.c = 0
    · exact hc
    · exact absurd (fun t => absurd t hc) h2
  have h3 : ¬ (bs.length : Int) - s.a < 2 := fun t => h2 (fun _ => t)
  have hle := (unhide H).le
  have hsm := (unhide H).small
  have hlc := (unhide H).lc
  have hcm := (unhide H).cm
  have ht : s.a + 2 ≤ bs.length := by omega
  obtain ⟨N, HN⟩ : ∃ N, Hid (num ((bs.drop s.a).take 2) = N) := ⟨_, rfl⟩
  have hN : N < 65536 := by
    rw [← unhide HN]
    refine Nat.lt_of_lt_of_le (num_lt _) (Nat.le_trans (Nat.pow_le_pow_right (by omega) (List.length_take_le 2 _)) (by decide))
  have hq : (2 : Int) ≤ (bs.length : Int) - s.a := by omega
  have e1 : oText bs s.a most = if most < N then .error 12 else if (bs.length : Int) - (s.a + 2 : Nat) < N then .error 10 else .ok (.string ⟨((bs.drop (s.a + 2)).take N).toArray⟩, s.a + (2 + N)) := by
    unfold oText; rw [if_neg h1, if_neg h3, unhide HN, Nat.add_assoc]
  have HC := hide hc
  clear h1 h2 h3 hc
  by_cases h4 : most < N
  · rw [e1, if_pos h4, stepR_error]
    clear e1
    have h4' : decide (most < (N : Int)) = true := by simp; omega
    have H4 := hide h4
    clear h4
    go_enter Tryz.func35, Tryz.ntmps35
    go_wp2_with fail
    refine (xsome_ok (unhide H) 2 (unhide HC) hq).mono ?_
    rintro e w1 ⟨rfl, hX, hF⟩
    have H1 := hide (And.intro hX hF)
    clear hX hF
    go_wp2_with fail
    refine (xnumber (unhide H1).1 2 ht (by omega)).mono ?_
    rw [unhide HN]
    rintro e w2 ⟨rfl, j, rfl⟩
    go_wp2_with fail
    refine (xbad ((unhide H1).1.drewN j) 12).mono ?_
    rintro e w3 ⟨rfl, hX, hF⟩
    have H2 := hide (And.intro hX (((unhide H1).2.drewN j).trans hF (fun _ _ t => t)))
    clear hX hF H1
    go_wp2
    go_ret
    exact ⟨rfl, unhide H2⟩
  rw [e1, if_neg h4]
  clear e1
  have h4' : decide (most < (N : Int)) = false := by simp; omega
  have H4 := hide h4
  clear h4
  by_cases h5 : (bs.length : Int) - (s.a + 2 : Nat) < N
  · rw [if_pos h5, stepR_error]
    have h5' : decide ((N : Int) ≤ (bs.length : Int) - s.a - (2 : Nat)) = false := by simp; omega
    have H5 := hide h5
    clear h5
    go_enter Tryz.func35, Tryz.ntmps35
    go_wp2_with fail
    refine (xsome_ok (unhide H) 2 (unhide HC) hq).mono ?_
    rintro e w1 ⟨rfl, hX, hF⟩
    have H1 := hide (And.intro hX hF)
    clear hX hF
    go_wp2_with fail
    refine (xnumber (unhide H1).1 2 ht (by omega)).mono ?_
    rw [unhide HN]
    rintro e w2 ⟨rfl, j, rfl⟩
    go_wp2_with fail
    refine (xhas ((unhide H1).1.drewN j) 2 (by omega) N).mono ?_
    rw [h5']
    rintro e w2 ⟨rfl, j2, rfl⟩
    have HX := hide (And.intro (((unhide H1).1.drewN j).drewN j2) (((unhide H1).2.drewN j).drewN j2))
    generalize ((w1.drewN j).drewN j2) = wA at HX ⊢
    go_wp2_with fail
    refine (xbad (unhide HX).1 10).mono ?_
    rintro e w3 ⟨rfl, hX, hF⟩
    have H2 := hide (And.intro hX ((unhide HX).2.trans hF (fun _ _ t => t)))
    clear hX hF H1
    go_wp2
    go_ret
    exact ⟨rfl, unhide H2⟩
  rw [if_neg h5]
  have h5' : decide ((N : Int) ≤ (bs.length : Int) - s.a - (2 : Nat)) = true := by simp; omega
  have ht2 : s.a + 2 + N ≤ bs.length := by omega
  clear h5
  obtain ⟨S, HS⟩ : ∃ S, Hid ((⟨((bs.drop (s.a + 2)).take N).toArray⟩ : ByteArray) = S) := ⟨_, rfl⟩
  rw [unhide HS, stepR_ok _ _ _ (unhide HC)]
  have ht3 : s.a + (2 + N) ≤ bs.length := by omega
  have hb1 : (s.a : Int) + 2 ≤ (s.a : Int) + 2 + N := by omega
  have hb2 : (s.a : Int) + 2 + N ≤ cap := by omega
  go_enter Tryz.func35, Tryz.ntmps35
  go_wp2_with fail
  refine (xsome_ok (unhide H) 2 (unhide HC) hq).mono ?_
  rintro e w1 ⟨rfl, hX, hF⟩
  have H1 := hide (And.intro hX hF)
  clear hX hF
  go_wp2_with fail
  refine (xnumber (unhide H1).1 2 ht (by omega)).mono ?_
  rw [unhide HN]
  rintro e w2 ⟨rfl, j, rfl⟩
  go_wp2_with fail
  refine (xhas ((unhide H1).1.drewN j) 2 (by omega) N).mono ?_
  rw [h5']
  rintro e w2 ⟨rfl, j2, rfl⟩
  have HX := hide (And.intro (((unhide H1).1.drewN j).drewN j2) (((unhide H1).2.drewN j).drewN j2))
  generalize ((w1.drewN j).drewN j2) = wA at HX ⊢
  clear H1
  have c0 := (unhide HX).1.c0
  have c1 := (unhide HX).1.c1
  by_cases hne : cap = s.a + 2
  · have hcv : ∀ j c, (convert 23 9 (.slice ao N c)).run Tryz.prog (wA.drewN j) = .ok (.string S) (wA.drewN j) := fun j c => by
      rw [← unhide HS]; exact conv_x ((unhide HX).1.drewN j) ao (s.a + 2) N c ht2 (fun h0 => by omega)
    go_wp2_with fail
    go_quiet (fail)
    go_wp2_with fail
    refine (xtook ((unhide HX).1.drewN nq) (2 + N) ht3).mono ?_
    rintro e w3 ⟨rfl, hX, hF⟩
    have H2 := hide (And.intro hX (((unhide HX).2.drewN nq).trans hF (fun _ _ t => t)))
    clear hX hF HX
    go_wp2
    go_ret
    exact ⟨rfl, unhide H2⟩
  · have hcv : ∀ j c, (convert 23 9 (.slice (ao.map (fun x => (⟨x.block, x.off + (s.a + 1 + 1), none⟩ : Addr))) N c)).run Tryz.prog (wA.drewN j) = .ok (.string S) (wA.drewN j) := fun j c => by
      rw [← unhide HS]; exact conv_x ((unhide HX).1.drewN j) _ (s.a + 2) N c ht2 (fun h0 => rfl)
    have hn2 : ((s.a : Int) + 2).toNat = s.a + 2 := by omega
    have hn3 : ((s.a : Int) + 2 + N).toNat = s.a + 2 + N := by omega
    have hw1 : IntKind.i64.wrap ((s.a : Int) + 2) = (s.a : Int) + 2 := by rw [IntKind.wrap_i64]; omega
    have hw2 : IntKind.i64.wrap ((s.a : Int) + 2 + N) = (s.a : Int) + 2 + N := by rw [IntKind.wrap_i64]; omega
    have hz0 : (0 : Int) ≤ (s.a : Int) + 2 := by omega
    go_wp2_with fail
    go_quiet (fail)
    go_wp2_with fail
    refine (xtook ((unhide HX).1.drewN nq) (2 + N) ht3).mono ?_
    rintro e w3 ⟨rfl, hX, hF⟩
    have H2 := hide (And.intro hX (((unhide HX).2.drewN nq).trans hF (fun _ _ t => t)))
    clear hX hF HX
    go_wp2
    go_ret
    exact ⟨rfl, unhide H2⟩

theorem XAt.setOther (h : XAt w p ao cap bs s) {b o : Nat} (hp : b ≠ p) (hg : ∀ b' off, ao = some ⟨b', off, none⟩ → 0 < bs.length → b ≠ b') (v : Value) : XAt (w.setCell ⟨b, o, none⟩ v) p ao cap bs s :=
  h.stay (Below.heap_setCell _ _ _ _ (fun e => hp e.symm)) fun b' off e h0 _ => Below.heap_setCell _ _ _ _ (fun t => hg b' off e h0 t.symm)

theorem XAt.rowlt (h : XAt w p ao cap bs s) {b' off : Nat} (e : ao = some ⟨b', off, none⟩) (h0 : 0 < bs.length) : b' < w.heap.size := by
  obtain ⟨b, o, e1, _, hc⟩ := h.row h0
  rw [e] at e1
  injection e1 with e1
  injection e1 with e1 e2
  subst e1
  exact World.block_lt_of_cell? _ _ (hc 0 h0)

theorem xEnd (h : XAt w p ao cap bs s) :
    Calls Tryz.prog 36 #[.pointer (some ⟨p, 0, none⟩)] w fun e w' => e = .returned (.agg #[.int .i64 (endR s bs.length).c, .int .i64 (endR s bs.length).f]) ∧ XAt w' p ao cap bs (endR s bs.length) ∧ Fr (· = p) w w' := by
  have H := hide h
  have hlt := h.lt
  have hsm := h.small
  have c0 := h.c0
  have c1 := h.c1
  have c3 := h.c3
  have c4 := h.c4
  clear h
  have hnp : w.heap.size ≠ p := by omega
  by_cases ha : s.a < bs.length
  · obtain ⟨s', Hs'⟩ : ∃ s', Hid (badR s 13 = s') := ⟨_, rfl⟩
    rw [show endR s bs.length = s' by rw [← unhide Hs']; unfold endR badR; simp [ha]]
    have hd : decide ((s.a : Int) < (bs.length : Int)) = true := by simp; omega
    go_enter Tryz.func36, Tryz.ntmps36
    go_wp2
    go_quiet (fail)
    go_wp2_with fail
    refine (xbad (XAt.drewN (XAt.alloc (unhide H) (.cells #[.int .i64 0, .int .i64 0] 64)) nq) 13).mono ?_
    rw [unhide Hs']
    rintro e w2 ⟨rfl, hX, hF⟩
    have d3 := hX.c3
    have d4 := hX.c4
    have hF0 := (((Fr.refl (· = p) w).alloc (.cells #[.int .i64 0, .int .i64 0] 64)).drewN nq)
    have m0 : w2.cell? ⟨w.heap.size, 0, none⟩ = some (.int .i64 0) := (hF.cell (a := ⟨w.heap.size, 0, none⟩) (by simp) hnp).trans (by simp [go_sem])
    have m1 : w2.cell? ⟨w.heap.size, 1, none⟩ = some (.int .i64 0) := (hF.cell (a := ⟨w.heap.size, 1, none⟩) (by simp) hnp).trans (by simp [go_sem])
    have g0 : w2.frozen? ⟨w.heap.size, 0, none⟩ = false := (hF.frozen (a := ⟨w.heap.size, 0, none⟩) (by simp) hnp).trans (by simp [go_sem])
    have g1 : w2.frozen? ⟨w.heap.size, 1, none⟩ = false := (hF.frozen (a := ⟨w.heap.size, 1, none⟩) (by simp) hnp).trans (by simp [go_sem])
    have hng : ∀ b' off, ao = some ⟨b', off, none⟩ → 0 < bs.length → w.heap.size ≠ b' := fun b' off e h0 => by have := XAt.rowlt (unhide H) e h0; omega
    have HR := hide ((hX.setOther (o := 0) hnp hng (.int .i64 s'.c)).setOther (o := 1) hnp hng (.int .i64 s'.f))
    have HF := hide (((hF0.trans hF (fun _ _ t => t)).setCell (p := ⟨w.heap.size, 0, none⟩) (fun t => absurd t (Nat.lt_irrefl _)) (.int .i64 s'.c)).setCell (p := ⟨w.heap.size, 1, none⟩) (fun t => absurd t (Nat.lt_irrefl _)) (.int .i64 s'.f))
    have hpw := hX.lt
    have hwl : w.heap.size < w2.heap.size := World.block_lt_of_cell? _ _ m0
    clear hX hF hF0 hng
    go_wp2
    exact bodyPost_ret (v := .agg #[.int .i64 s'.c, .int .i64 s'.f]) (by simp [results, Tryz.results36, go_sem, m0, m1]) rfl ⟨rfl, unhide HR, unhide HF⟩
  · rw [show endR s bs.length = s by simp [endR, ha]]
    have hd : decide ((s.a : Int) < (bs.length : Int)) = false := by simp; omega
    have hng : ∀ b' off, ao = some ⟨b', off, none⟩ → 0 < bs.length → w.heap.size ≠ b' := fun b' off e h0 => by have := XAt.rowlt (unhide H) e h0; omega
    have Hng := hide hng
    clear hng
    go_enter Tryz.func36, Tryz.ntmps36
    go_wp2
    go_quiet (fail)
    have HR := hide ((((XAt.alloc (unhide H) (.cells #[.int .i64 0, .int .i64 0] 64)).drewN nq).setOther (o := 0) hnp (unhide Hng) (.int .i64 s.c)).setOther (o := 1) hnp (unhide Hng) (.int .i64 s.f))
    have HF := hide (((((Fr.refl (· = p) w).alloc (.cells #[.int .i64 0, .int .i64 0] 64)).drewN nq).setCell (p := ⟨w.heap.size, 0, none⟩) (fun t => absurd t (Nat.lt_irrefl _)) (.int .i64 s.c)).setCell (p := ⟨w.heap.size, 1, none⟩) (fun t => absurd t (Nat.lt_irrefl _)) (.int .i64 s.f))
    go_wp2
    exact bodyPost_ret (v := .agg #[.int .i64 s.c, .int .i64 s.f]) (by simp [results, Tryz.results36, go_sem]) rfl ⟨rfl, unhide HR, unhide HF⟩

end
end Go.Proofs.YtabhfeocelljdaaGreatDoor

