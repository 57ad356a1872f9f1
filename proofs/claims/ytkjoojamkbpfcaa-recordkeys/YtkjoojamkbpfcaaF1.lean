/- The document's reader (package fareboxref01): what it is in memory ('XAt'), and the contracts of its inner functions bad, has, some, number, took. -/
import Derived.Test.YtkjoojamkbpfcaaC5
namespace Go.Proofs.Ytkjoojamkbpfcaa
open Go.RowKit

/-- The document's reader in memory, in block p; its bytes are the slice (ao, cap). -/
structure XAt (w : World) (p : Nat) (ao : Option Addr) (cap : Nat) (bs : List UInt8) (s : RS) : Prop where
  c0 : w.cell? ⟨p, 0, none⟩ = some (.slice ao bs.length cap)
  c1 : w.cell? ⟨p, 1, none⟩ = some (.int .i64 s.a)
  c2 : w.cell? ⟨p, 2, none⟩ = some (.int .i64 s.l)
  c3 : w.cell? ⟨p, 3, none⟩ = some (.int .i64 s.c)
  c4 : w.cell? ⟨p, 4, none⟩ = some (.int .i64 s.f)
  fz : ∀ i, i < 5 → w.frozen? ⟨p, i, none⟩ = false
  row : 0 < bs.length → ∃ b off, ao = some ⟨b, off, none⟩ ∧ b ≠ p ∧ ∀ j (hj : j < bs.length), w.cell? ⟨b, off + j, none⟩ = some (.int .u8 (bs[j].toNat))
  le : s.a ≤ bs.length
  small : bs.length ≤ 140737488355328
  lc : bs.length ≤ cap
  cm : cap ≤ 9223372036854775807

theorem XAt.lt {w : World} {p : Nat} {ao : Option Addr} {cap : Nat} {bs : List UInt8} {s : RS} (h : XAt w p ao cap bs s) : p < w.heap.size := World.block_lt_of_cell? _ _ h.c1

theorem XAt.stay {w w' : World} {p : Nat} {ao : Option Addr} {cap : Nat} {bs : List UInt8} {s : RS} (h : XAt w p ao cap bs s) (hp : w'.heap[p]? = w.heap[p]?)
    (hb : ∀ b off, ao = some ⟨b, off, none⟩ → 0 < bs.length → b < w.heap.size → w'.heap[b]? = w.heap[b]?) : XAt w' p ao cap bs s := by
  have e : ∀ i, w'.cell? ⟨p, i, none⟩ = w.cell? ⟨p, i, none⟩ := fun i => World.cell?_of_block (a := ⟨p, i, none⟩) hp
  have e' : ∀ i, w'.frozen? ⟨p, i, none⟩ = w.frozen? ⟨p, i, none⟩ := fun i => World.frozen?_of_block (a := ⟨p, i, none⟩) hp
  refine ⟨(e 0).trans h.c0, (e 1).trans h.c1, (e 2).trans h.c2, (e 3).trans h.c3, (e 4).trans h.c4, fun i hi => (e' i).trans (h.fz i hi), fun h0 => ?_, h.le, h.small, h.lc, h.cm⟩
  obtain ⟨b, off, e1, e2, hc⟩ := h.row h0
  refine ⟨b, off, e1, e2, fun j hj => ?_⟩
  have hg := World.block_lt_of_cell? _ _ (hc j hj)
  exact (World.cell?_of_block (a := ⟨b, off + j, none⟩) (hb b off e1 h0 hg)).trans (hc j hj)

theorem XAt.alloc {w : World} {p : Nat} {ao : Option Addr} {cap : Nat} {bs : List UInt8} {s : RS} (h : XAt w p ao cap bs s) (o : Obj) : XAt (w.alloc o) p ao cap bs s :=
  h.stay (Below.heap_alloc _ _ _ h.lt) fun _ _ _ _ hlt => Below.heap_alloc _ _ _ hlt

theorem XAt.drewN {w : World} {p : Nat} {ao : Option Addr} {cap : Nat} {bs : List UInt8} {s : RS} (h : XAt w p ao cap bs s) (n : Nat) : XAt (w.drewN n) p ao cap bs s :=
  h.stay rfl fun _ _ _ _ _ => rfl

/-- A cell of its own is set. -/
theorem XAt.set {w : World} {p : Nat} {ao : Option Addr} {cap : Nat} {bs : List UInt8} {s : RS} (h : XAt w p ao cap bs s) (i : Nat) (v : Value) (s' : RS)
    (h1 : if i = 1 then v = .int .i64 s'.a else s'.a = s.a) (h2 : if i = 2 then v = .int .i64 s'.l else s'.l = s.l) (h3 : if i = 3 then v = .int .i64 s'.c else s'.c = s.c) (h4 : if i = 4 then v = .int .i64 s'.f else s'.f = s.f)
    (h0 : i ≠ 0) (hle : s'.a ≤ bs.length) : XAt (w.setCell ⟨p, i, none⟩ v) p ao cap bs s' := by
  have e : ∀ b k, ¬ (b = p ∧ k = i) → (w.setCell ⟨p, i, none⟩ v).cell? ⟨b, k, none⟩ = w.cell? ⟨b, k, none⟩ := fun b k hi => World.cell?_setCell_other _ _ _ _ (by intro h; injection h with h1 h2; exact hi ⟨h1.symm, h2.symm⟩)
  have key : ∀ k u u', w.cell? ⟨p, k, none⟩ = some (.int .i64 u) → (if i = k then v = .int .i64 u' else u' = u) → (w.setCell ⟨p, i, none⟩ v).cell? ⟨p, k, none⟩ = some (.int .i64 u') := by
    intro k u u' hk hi
    by_cases hik : i = k
    · subst hik
      rw [if_pos rfl] at hi
      subst hi
      exact World.cell?_setCell_same _ _ _ hk
    · rw [if_neg hik] at hi
      subst hi
      exact (e _ _ (by omega)).trans hk
  refine ⟨(e _ _ (by omega)).trans h.c0, key 1 _ _ h.c1 (by split at h1 <;> simp_all), key 2 _ _ h.c2 (by split at h2 <;> simp_all), key 3 _ _ h.c3 h3, key 4 _ _ h.c4 h4, fun k hk => by rw [World.frozen?_setCell]; exact h.fz k hk, fun hl => ?_, hle, h.small, h.lc, h.cm⟩
  obtain ⟨b, off, e1, e2, hc⟩ := h.row hl
  exact ⟨b, off, e1, e2, fun j hj => (e _ _ (by omega)).trans (hc j hj)⟩

section
variable {w : World} {p : Nat} {ao : Option Addr} {cap : Nat} {bs : List UInt8} {s : RS}

/-- bad: the state behind it. -/
def badR (s : RS) (x : Int) : RS := if s.c = 0 then { s with c := x, f := s.a } else s

theorem xbad (h : XAt w p ao cap bs s) (x : Int) :
    Calls Try.prog 96 #[.pointer (some ⟨p, 0, none⟩), .int .i64 x] w fun e w' => e = .returned (.tuple #[]) ∧ XAt w' p ao cap bs (badR s x) ∧ Fr (· = p) w w' := by
  have H := hide h
  have c1 := h.c1
  have c3 := h.c3
  have c4 := h.c4
  have f3 := h.fz 3 (by omega)
  have f4 := h.fz 4 (by omega)
  have hlt := h.lt
  clear h
  by_cases hc : s.c = 0
  · rw [show badR s x = { s with c := x, f := s.a } by simp [badR, hc]]
    have hc' : (s.c == 0) = true := by simp [hc]
    have HC := hide hc
    clear hc
    go_enter Try.func96, Try.ntmps96
    go_wp2
    go_end0
    exact ⟨rfl, ((unhide H).set 3 _ { s with c := x } rfl rfl rfl rfl (by omega) (unhide H).le).set 4 _ { s with c := x, f := s.a } rfl rfl rfl rfl (by omega) (unhide H).le, ((Fr.refl (· = p) w).setCell (p := ⟨p, 3, none⟩) (fun _ => rfl) _).setCell (p := ⟨p, 4, none⟩) (fun _ => rfl) _⟩
  · rw [show badR s x = s by simp [badR, hc]]
    have hc' : (s.c == 0) = false := by simp [hc]
    have HC := hide hc
    clear hc
    go_enter Try.func96, Try.ntmps96
    go_wp2
    go_end0
    exact ⟨rfl, unhide H, Fr.refl _ _⟩

theorem xtook (h : XAt w p ao cap bs s) (n : Nat) (hn : s.a + n ≤ bs.length) :
    Calls Try.prog 99 #[.pointer (some ⟨p, 0, none⟩), .int .i64 n] w fun e w' => e = .returned (.tuple #[]) ∧ XAt w' p ao cap bs { s with a := s.a + n, l := s.a } ∧ Fr (· = p) w w' := by
  have H := hide h
  have c1 := h.c1
  have c2 := h.c2
  have f1 := h.fz 1 (by omega)
  have f2 := h.fz 2 (by omega)
  have hlt := h.lt
  have hsm := h.small
  clear h
  go_enter Try.func99, Try.ntmps99
  go_wp2
  go_end0
  exact ⟨rfl, ((unhide H).set 2 _ { s with l := s.a } rfl rfl rfl rfl (by omega) (unhide H).le).set 1 _ { s with a := s.a + n, l := s.a } (by simp) rfl rfl rfl (by omega) hn, ((Fr.refl (· = p) w).setCell (p := ⟨p, 2, none⟩) (fun _ => rfl) _).setCell (p := ⟨p, 1, none⟩) (fun _ => rfl) _⟩

theorem xhas (h : XAt w p ao cap bs s) (k : Nat) (hk : k ≤ 2) (n : Int) :
    Calls Try.prog 125 #[.pointer (some ⟨p, 0, none⟩), .int .i64 k, .int .i64 n] w fun e w' => e = .returned (.bool (decide (n ≤ (bs.length : Int) - s.a - k))) ∧ ∃ j, w' = w.drewN j := by
  have c0 := h.c0
  have c1 := h.c1
  have hsm := h.small
  have hle := h.le
  have hlt := h.lt
  clear h
  go_enter Try.func125, Try.ntmps125
  go_wp2
  go_quiet (fail)
  go_wp2
  go_ret
  exact ⟨rfl, nq, rfl⟩

theorem xsome_ok (h : XAt w p ao cap bs s) (n : Int) (hc : s.c = 0) (hn : n ≤ (bs.length : Int) - s.a) :
    Calls Try.prog 97 #[.pointer (some ⟨p, 0, none⟩), .int .i64 n] w fun e w' => e = .returned (.bool true) ∧ XAt w' p ao cap bs s ∧ Fr (· = p) w w' := by
  have H := hide h
  have c3 := h.c3
  have hlt := h.lt
  clear h
  have hc' : (s.c != 0) = false := by simp [hc]
  have hd : decide (n ≤ (bs.length : Int) - s.a - (0 : Nat)) = true := by simp; omega
  have HC := hide (And.intro hc hn)
  clear hc hn
  go_enter Try.func97, Try.ntmps97
  go_wp2_with fail
  refine (xhas (unhide H) 0 (by omega) n).mono ?_
  rw [hd]
  rintro e w1 ⟨rfl, j, rfl⟩
  go_wp2
  go_ret
  exact ⟨rfl, (unhide H).drewN j, (Fr.refl _ _).drewN j⟩

theorem xsome_no (h : XAt w p ao cap bs s) (n : Int) (hn : s.c = 0 → (bs.length : Int) - s.a < n) :
    Calls Try.prog 97 #[.pointer (some ⟨p, 0, none⟩), .int .i64 n] w fun e w' => e = .returned (.bool false) ∧ XAt w' p ao cap bs (badR s 10) ∧ Fr (· = p) w w' := by
  have H := hide h
  have c3 := h.c3
  have hlt := h.lt
  clear h
  by_cases hc : s.c = 0
  · have hc' : (s.c != 0) = false := by simp [hc]
    have hd : decide (n ≤ (bs.length : Int) - s.a - (0 : Nat)) = false := by simp; have := hn hc; omega
    have HC := hide (And.intro hc hn)
    clear hc hn
    go_enter Try.func97, Try.ntmps97
    go_wp2_with fail
    refine (xhas (unhide H) 0 (by omega) n).mono ?_
    rw [hd]
    rintro e w1 ⟨rfl, j, rfl⟩
    have H1 := hide ((unhide H).drewN j)
    go_wp2_with fail
    refine (xbad (unhide H1) 10).mono ?_
    rintro e w2 ⟨rfl, hX, hF⟩
    have H2 := hide (And.intro hX (((Fr.refl (· = p) w).drewN j).trans hF (fun _ _ t => t)))
    clear hX hF
    go_wp2
    go_ret
    exact ⟨rfl, unhide H2⟩
  · rw [show badR s 10 = s by simp [badR, hc]]
    have hc' : (s.c != 0) = true := by simp [hc]
    have HC := hide hc
    clear hc hn
    go_enter Try.func97, Try.ntmps97
    go_wp2
    go_ret
    exact ⟨rfl, unhide H, Fr.refl _ _⟩

theorem xnumber (h : XAt w p ao cap bs s) (k : Nat) (hk : s.a + k ≤ bs.length) (hk8 : k ≤ 8) :
    Calls Try.prog 98 #[.pointer (some ⟨p, 0, none⟩), .int .i64 0, .int .i64 k] w fun e w' => e = .returned (.int .u64 (num ((bs.drop s.a).take k))) ∧ ∃ j, w' = w.drewN j := by
  have H := hide h
  have c0 := h.c0
  have c1 := h.c1
  have hsm := h.small
  have hlc := h.lc
  have hlt := h.lt
  clear h
  go_enter Try.func98, Try.ntmps98
  go_wp2
  go_loopw [7, 8] (fun nv i wr => ∃ j : Nat, j ≤ k ∧ i = .int .i64 j ∧ nv = .int .u64 (num ((bs.drop s.a).take j)) ∧ ∃ d, wr = w.drewN d) (fun _ i _ => k - (intOf i).toNat)
  case atStart => exact ⟨0, Nat.zero_le _, rfl, rfl, 0, rfl⟩
  case round =>
    obtain ⟨j, hj, rfl, rfl, d, rfl⟩ := hrel
    by_cases hjk : j < k
    · obtain ⟨b, off, rfl, hbp, hrow⟩ := (unhide H).row (by omega)
      have hL : s.a + j < bs.length := by omega
      have hcj := hrow (s.a + j) hL
      have HS : Hid (num ((bs.drop s.a).take (j + 1)) = num ((bs.drop s.a).take j) * 256 + bs[s.a + j].toNat) := by
        show _ = _
        rw [take_more _ _ (by rw [List.length_drop]; omega), num_snoc, List.getElem_drop]
      have hs7 := pow56 ((bs.drop s.a).take j) (by have := List.length_take_le j (bs.drop s.a); omega)
      have hbyte := UInt8.toNat_lt bs[s.a + j]
      clear hrow
      go_wp2
      go_quiet (fail)
      go_wp2
      refine ⟨⟨j + 1, by omega, by go_num, ?_, d + nq, by rw [← World.drewN_drewN]⟩, by simp [intOf]; omega⟩
      rw [unhide HS]
      congr 1
    · obtain rfl : j = k := by omega
      go_wp2
      go_ret
      exact ⟨rfl, d, rfl⟩

end
end Go.Proofs.Ytkjoojamkbpfcaa
