import Derived.Test.YtlhgfnpialndaaaRows
import Derived.Test.YtlhgfnpialndaaaA0
import Derived.Defers
import Derived.Recover
import Derived.Deep.QuietTactic
import Derived.BigQuiet
import Derived.Laws.BytesArg
import Derived.Laws.IdiomStrings
import Derived.Laws.Externs
import Derived.Deep.RegionHeld
/- Contracts of the small functions of package wire: must, failed, At, Fault, Left, next, digits, count. -/
namespace Go.Proofs.Ytlhgfnpialndaaa
open Go.RowKit

theorem must_ok (c : Int) (w : World) :
    Calls Try.prog 75 #[.bool true, .int .i64 c] w fun e w' => e = .returned (.tuple #[]) ∧ w = w' := by
  go_enter Try.func75, Try.ntmps75
  go_wp2
  go_end0
  exact ⟨rfl, rfl⟩

theorem must_no (c : Int) (w : World) :
    Calls Try.prog 75 #[.bool false, .int .i64 c] w fun e w' => e = .panicked [{ v := .iface 28 (.int .i64 c), recovered := false }] ∧ w = w' := by
  go_enter Try.func75, Try.ntmps75
  go_wp2
  exact ⟨rfl, rfl, rfl⟩

theorem failed_any (p : Nat) (c : Int) (w : World) (h3 : w.cell? ⟨p, 3, none⟩ = some (.int .i64 c)) :
    Calls Try.prog 91 #[.pointer (some ⟨p, 0, none⟩)] w fun e w' => e = .returned (.bool (c != 0)) ∧ w = w' := by
  go_enter Try.func91, Try.ntmps91
  go_wp2
  go_ret
  exact ⟨rfl, rfl⟩

theorem left_any (p : Nat) (a n : Nat) (ao : Option Addr) (cap : Nat) (w : World) (h0 : w.cell? ⟨p, 0, none⟩ = some (.slice ao n cap)) (h1 : w.cell? ⟨p, 1, none⟩ = some (.int .i64 a)) (ha : a ≤ n) (hn : n ≤ 140737488355328) :
    Calls Try.prog 93 #[.pointer (some ⟨p, 0, none⟩)] w fun e w' => e = .returned (.int .i64 (n - a)) ∧ ∃ k, w' = w.drewN k := by
  go_enter Try.func93, Try.ntmps93
  go_wp2
  go_quiet (fail)
  go_wp2
  go_ret
  exact ⟨rfl, nq, rfl⟩

/-- what 'next' answers: a row of the reader's own bytes -/
theorem next_ok0 (p g : Nat) (a n k : Nat) (ao : Option Addr) (cap : Nat) (w : World) (h0 : w.cell? ⟨p, 0, none⟩ = some (.slice ao n cap)) (h1 : w.cell? ⟨p, 1, none⟩ = some (.int .i64 a)) (f1 : w.frozen? ⟨p, 1, none⟩ = false)
    (hak : a + k ≤ n) (hn : n ≤ 140737488355328) (hcap : n ≤ cap) (hcm : cap ≤ 9223372036854775807) (hao : 0 < cap → ao = some ⟨g, 0, none⟩) :
    Calls Try.prog 78 #[.pointer (some ⟨p, 0, none⟩), .int .i64 k] w fun e w' => (∃ A, e = .returned (.slice A k (cap - a)) ∧ (0 < k → A = some ⟨g, a, none⟩)) ∧ ∃ j, w' = (w.setCell ⟨p, 1, none⟩ (.int .i64 (a + k))).drewN j := by
  go_enter Try.func78, Try.ntmps78
  go_wp2_with fail
  refine (left_any p a n ao cap _ h0 h1 (by omega) hn).mono ?_
  rintro e w1 ⟨rfl, j1, rfl⟩
  have hd : decide ((k : Int) ≤ (n : Int) - a) = true := by simp; omega
  go_wp2_with fail
  refine (must_ok 10 _).mono ?_
  rintro e w2 ⟨rfl, rfl⟩
  go_wp2_with fail
  have hb1 : (a : Int) ≤ (a : Int) + k := by omega
  have hb2 : (a : Int) + k ≤ cap := by omega
  go_quiet (fail)
  go_wp2
  · go_ret
    refine ⟨⟨_, rfl, fun h0k => absurd h0k (by omega)⟩, j1 + nq, by rw [← World.drewN_drewN]; rfl⟩
  · go_ret
    refine ⟨⟨_, rfl, fun h0k => ?_⟩, j1 + nq, by rw [← World.drewN_drewN]; rfl⟩
    rw [hao (by omega)]
    simp only [Option.map_some, Addr.add, Nat.zero_add]
    split <;> simp_all

section
variable {w : World} {p g : Nat} {bs : List UInt8} {a l : Nat} {c f : Int}

theorem left_r (h : RAt w p g bs a l c f) :
    Calls Try.prog 93 #[.pointer (some ⟨p, 0, none⟩)] w fun e w' => e = .returned (.int .i64 (bs.length - a)) ∧ ∃ k, w' = w.drewN k := by
  obtain ⟨ao, cap, h0, _⟩ := h.c0
  exact left_any p a bs.length ao cap w h0 h.c1 h.le h.small

theorem next_ok (h : RAt w p g bs a l c f) (k : Nat) (hak : a + k ≤ bs.length) :
    Calls Try.prog 78 #[.pointer (some ⟨p, 0, none⟩), .int .i64 k] w fun e w' => (∃ A cap, e = .returned (.slice A k cap) ∧ k ≤ cap ∧ (0 < k → A = some ⟨g, a, none⟩)) ∧ RAt w' p g bs (a + k) l c f ∧ Fr (· = p) w w' := by
  obtain ⟨ao, cap, h0, hcap, hcm, hao⟩ := h.c0
  refine (next_ok0 p g a bs.length k ao cap w h0 h.c1 (h.fz 1 (by omega)) hak h.small hcap hcm hao).mono ?_
  rintro e w' ⟨⟨A, rfl, hA⟩, j, rfl⟩
  exact ⟨⟨A, _, rfl, by omega, hA⟩, (h.setAt (a + k) hak).drewN j, ((Fr.refl (· = p) _).setCell (p := ⟨p, 1, none⟩) (fun _ => rfl) _).drewN j⟩

theorem next_short (h : RAt w p g bs a l c f) (k : Int) (hak : (bs.length : Int) - a < k) :
    Calls Try.prog 78 #[.pointer (some ⟨p, 0, none⟩), .int .i64 k] w fun e w' => e = .panicked [{ v := .iface 28 (.int .i64 10), recovered := false }] ∧ ∃ j, w' = w.drewN j := by
  have H := hide h
  have hd : decide ((k : Int) ≤ (bs.length : Int) - a) = false := by simp; omega
  clear h
  go_enter Try.func78, Try.ntmps78
  go_wp2_with fail
  refine (left_r (unhide H)).mono ?_
  rintro e w1 ⟨rfl, j1, rfl⟩
  go_wp2_with fail
  refine (must_no 10 _).mono ?_
  rintro e w2 ⟨rfl, rfl⟩
  go_wp2
  exact ⟨rfl, rfl, _, rfl⟩

theorem digits_ok (h : RAt w p g bs a l c f) (k : Nat) (hak : a + k ≤ bs.length) (hk8 : k ≤ 8) :
    Calls Try.prog 83 #[.pointer (some ⟨p, 0, none⟩), .int .i64 k] w fun e w' => e = .returned (.int .u64 (num ((bs.drop a).take k))) ∧ RAt w' p g bs (a + k) l c f ∧ Fr (· = p) w w' := by
  have H := hide h
  have hsmall := h.small
  clear h
  go_enter Try.func83, Try.ntmps83
  go_wp2_with fail
  refine (next_ok (unhide H) k hak).mono ?_
  rintro e w1 ⟨⟨A, cap, rfl, hcap, hA⟩, hR, hF⟩
  have H1 := hide (And.intro hR hF)
  clear hR hF H
  go_wp2
  go_loop [5, 12] (fun nv i => ∃ j : Nat, j ≤ k ∧ i = .int .i64 j ∧ nv = .int .u64 (num ((bs.drop a).take j))) (fun _ i => k - (intOf i).toNat)
  case atStart => exact ⟨0, Nat.zero_le _, rfl, rfl⟩
  case round =>
    obtain ⟨j, hj, rfl, rfl⟩ := hrel
    by_cases hlt : j < k
    · obtain rfl := hA (by omega)
      have hL : a + j < bs.length := by omega
      have hcj := (unhide H1).1.row (a + j) hL
      have HS : Hid (num ((bs.drop a).take (j + 1)) = num ((bs.drop a).take j) * 256 + bs[a + j].toNat) := by
        show _ = _
        rw [take_more _ _ (by rw [List.length_drop]; omega), num_snoc, List.getElem_drop]
      have hsm := pow56 ((bs.drop a).take j) (by have := List.length_take_le j (bs.drop a); omega)
      go_wp2
      refine ⟨⟨j + 1, by omega, by go_num, ?_⟩, by simp [intOf]; omega⟩
      rw [or_digit _ _ hsm (UInt8.toNat_lt _), unhide HS]
    · obtain rfl : j = k := by omega
      go_wp2
      go_ret
      exact ⟨rfl, unhide H1⟩

theorem digits_short (h : RAt w p g bs a l c f) (k : Int) (hak : (bs.length : Int) - a < k) :
    Calls Try.prog 83 #[.pointer (some ⟨p, 0, none⟩), .int .i64 k] w fun e w' => e = .panicked [{ v := .iface 28 (.int .i64 10), recovered := false }] ∧ ∃ j, w' = w.drewN j := by
  have H := hide h
  clear h
  go_enter Try.func83, Try.ntmps83
  go_wp2_with fail
  refine (next_short (unhide H) k hak).mono ?_
  rintro e w1 ⟨rfl, j1, rfl⟩
  go_wp2
  exact ⟨rfl, rfl, _, rfl⟩

end
end Go.Proofs.Ytlhgfnpialndaaa

/- Contracts of what the reader's calls hand to take, one a kind of piece. -/
namespace Go.Proofs.Ytlhgfnpialndaaa
open Go.RowKit

/-- The panic with which a piece is given up. -/
abbrev gave (x : Int) : Ending := .panicked [{ v := .iface 28 (.int .i64 x), recovered := false }]

/-- How a piece comes out: a value and where the next one begins; or what is wrong. -/
def Took (p g : Nat) (bs : List UInt8) (l : Nat) (c f : Int) (w : World) (o : Except Int (Value × Nat)) (e : Ending) (w' : World) : Prop :=
  match o with
  | .ok (v, a') => e = .returned v ∧ RAt w' p g bs a' l c f ∧ Fr (· = p) w w'
  | .error x => e = gave x ∧ (∃ a', RAt w' p g bs a' l c f) ∧ Fr (· = p) w w'

def oNumber (bs : List UInt8) (a : Nat) (size : Int) : Except Int (Value × Nat) :=
  if size < 1 ∨ 8 < size then .error 1
  else if (bs.length : Int) - a < size then .error 10
  else if 9223372036854775807 < num ((bs.drop a).take size.toNat) then .error 11
  else .ok (.int .i64 (num ((bs.drop a).take size.toNat)), a + size.toNat)

def oInt (bs : List UInt8) (a : Nat) : Except Int (Value × Nat) :=
  if (bs.length : Int) - a < 8 then .error 10
  else .ok (.int .i64 (wrap64 (num ((bs.drop a).take 8))), a + 8)

def oBool (bs : List UInt8) (a : Nat) : Except Int (Value × Nat) :=
  if (bs.length : Int) - a < 1 then .error 10
  else if 1 < num ((bs.drop a).take 1) then .error 11
  else .ok (.bool (num ((bs.drop a).take 1) == 1), a + 1)

def oCount (bs : List UInt8) (a : Nat) (most : Int) : Except Int (Value × Nat) :=
  if most < 0 then .error 1
  else if (bs.length : Int) - a < 2 then .error 10
  else if most < num ((bs.drop a).take 2) then .error 12
  else .ok (.int .i64 (num ((bs.drop a).take 2)), a + 2)

section
variable {w : World} {p g : Nat} {bs : List UInt8} {a l : Nat} {c f : Int}

theorem number_piece (h : RAt w p g bs a l c f) (size : Int) (sb rb : Nat) (hs : w.cell? ⟨sb, 0, none⟩ = some (.int .i64 size)) (hr : w.cell? ⟨rb, 0, none⟩ = some (.pointer (some ⟨p, 0, none⟩))) :
    Calls Try.prog 82 #[.pointer (some ⟨sb, 0, none⟩), .pointer (some ⟨rb, 0, none⟩)] w (Took p g bs l c f w (oNumber bs a size)) := by
  have H := hide h
  have hlt := World.block_lt_of_cell? _ _ hs
  clear h
  by_cases h1 : size < 1 ∨ 8 < size
  · rw [show oNumber bs a size = .error 1 by simp [oNumber, h1]]
    go_enter Try.func82, Try.ntmps82
    rcases h1 with h1 | h1
    · have hd : decide (1 ≤ size) = false := by simp; omega
      go_wp2_with fail
      refine (must_no 1 _).mono ?_
      rintro e w1 ⟨rfl, rfl⟩
      go_wp2
      exact ⟨rfl, rfl, ⟨_, unhide H⟩, Fr.refl _ _⟩
    · have hd : decide (1 ≤ size) = true := by simp; omega
      have hd2 : decide (size ≤ 8) = false := by simp; omega
      go_wp2_with fail
      refine (must_no 1 _).mono ?_
      rintro e w1 ⟨rfl, rfl⟩
      go_wp2
      exact ⟨rfl, rfl, ⟨_, unhide H⟩, Fr.refl _ _⟩
  obtain ⟨k, rfl⟩ : ∃ k : Nat, size = k := ⟨size.toNat, by omega⟩
  have hd : decide (1 ≤ (k : Int)) = true := by simp; omega
  have hd2 : decide ((k : Int) ≤ 8) = true := by simp; omega
  by_cases h2 : (bs.length : Int) - a < k
  · rw [show oNumber bs a k = .error 10 by simp [oNumber, h1, h2]]
    go_enter Try.func82, Try.ntmps82
    go_wp2_with fail
    refine (must_ok 1 _).mono ?_
    rintro e w1 ⟨rfl, rfl⟩
    go_wp2_with fail
    refine (digits_short (unhide H) k h2).mono ?_
    rintro e w1 ⟨rfl, j, rfl⟩
    go_wp2
    exact ⟨rfl, rfl, ⟨_, (unhide H).drewN j⟩, (Fr.refl _ _).drewN j⟩
  have hle := (unhide H).le
  obtain ⟨N, HN⟩ : ∃ N, Hid (num ((bs.drop a).take k) = N) := ⟨_, rfl⟩
  have e1 : oNumber bs a k = if 9223372036854775807 < N then .error 11 else .ok (.int .i64 N, a + k) := by rw [← unhide HN]; simp [oNumber, h1, h2]
  have ht : bs.length ≥ a + k ∧ k ≤ 8 := by omega
  clear h1 h2
  by_cases h3 : 9223372036854775807 < N
  · rw [e1, if_pos h3]
    clear e1
    have h3' : decide ((N : Int) ≤ 9223372036854775807) = false := by simp; omega
    have H3 := hide h3
    clear h3
    go_enter Try.func82, Try.ntmps82
    go_wp2_with fail
    refine (must_ok 1 _).mono ?_
    rintro e w1 ⟨rfl, rfl⟩
    go_wp2_with fail
    refine (digits_ok (unhide H) k ht.1 ht.2).mono ?_
    rw [unhide HN]
    rintro e w1 ⟨rfl, hR, hF⟩
    have H1 := hide (And.intro hR hF)
    clear hR hF
    go_wp2_with fail
    refine (must_no 11 _).mono ?_
    rintro e w2 ⟨rfl, rfl⟩
    go_wp2
    exact ⟨rfl, rfl, ⟨_, (unhide H1).1⟩, (unhide H1).2⟩
  · rw [e1, if_neg h3]
    clear e1
    have h3' : decide ((N : Int) ≤ 9223372036854775807) = true := by simp; omega
    have h4 : (N : Int) ≤ 9223372036854775807 := by omega
    clear h3
    go_enter Try.func82, Try.ntmps82
    go_wp2_with fail
    refine (must_ok 1 _).mono ?_
    rintro e w1 ⟨rfl, rfl⟩
    go_wp2_with fail
    refine (digits_ok (unhide H) k ht.1 ht.2).mono ?_
    rw [unhide HN]
    rintro e w1 ⟨rfl, hR, hF⟩
    have H1 := hide (And.intro hR hF)
    clear hR hF
    go_wp2_with fail
    refine (must_ok 11 _).mono ?_
    rintro e w2 ⟨rfl, rfl⟩
    go_wp2
    go_ret
    exact ⟨rfl, (unhide H1).1, (unhide H1).2⟩

end
end Go.Proofs.Ytlhgfnpialndaaa

/- Contracts of what the reader's calls hand to take: Fixed, Float, Text. -/
namespace Go.Proofs.Ytlhgfnpialndaaa
open Go.RowKit

/-- Is it a NaN? as 'x != x' has it -/
def nanB (b : Nat) : Bool := FloatKind.f64.format.order b b != some .eq

def oFixed (bs : List UInt8) (a : Nat) (size : Int) : Except Int (Value × Nat) :=
  if size < 0 ∨ 65535 < size then .error 1
  else if (bs.length : Int) - a < size then .error 10
  else .ok (.string ⟨((bs.drop a).take size.toNat).toArray⟩, a + size.toNat)

def oFloat (bs : List UInt8) (a : Nat) : Except Int (Value × Nat) :=
  if (bs.length : Int) - a < 8 then .error 10
  else if nanB (num ((bs.drop a).take 8)) = true ∧ num ((bs.drop a).take 8) ≠ 9221120237041090560 then .error 11
  else .ok (.float .f64 (num ((bs.drop a).take 8)), a + 8)

def oText (bs : List UInt8) (a : Nat) (most : Int) : Except Int (Value × Nat) :=
  if most < 0 then .error 1
  else if (bs.length : Int) - a < 2 then .error 10
  else if most < num ((bs.drop a).take 2) then .error 12
  else if (bs.length : Int) - (a + 2 : Nat) < num ((bs.drop a).take 2) then .error 10
  else .ok (.string ⟨((bs.drop (a + 2)).take (num ((bs.drop a).take 2))).toArray⟩, a + 2 + num ((bs.drop a).take 2))

section
variable {w : World} {p g : Nat} {bs : List UInt8} {a l : Nat} {c f : Int}

theorem conv_row (h : RAt w p g bs a l c f) (A : Option Addr) (s k cap : Nat) (hs : s + k ≤ bs.length) (hA : 0 < k → A = some ⟨g, s, none⟩) :
    (convert 64 9 (.slice A k cap)).run Try.prog w = .ok (.string ⟨((bs.drop s).take k).toArray⟩) w := by
  by_cases hk : 0 < k
  · rw [hA hk]
    have hL : ((bs.drop s).take k).length = k := by simp; omega
    have := run_convert_bytes_back (P := Try.prog) w 64 9 5 ⟨g, s, none⟩ cap ((bs.drop s).take k) Try.underlying64 Try.underlying5 Try.underlying9 (fun j hj => by
      have hplain : (⟨g, s, none⟩ : Addr).add j = ⟨g, s + j, none⟩ := by unfold Addr.add; split <;> simp_all
      rw [hplain, h.row (s + j) (by omega)]
      simp [List.getElem_take, List.getElem_drop])
    rwa [hL] at this
  · obtain rfl : k = 0 := by omega
    cases A with
    | none =>
      rw [run_convert_bytes_nil w 64 5 Try.underlying64 Try.underlying5 0 cap 9 Try.underlying9]
      simp; rfl
    | some x =>
      have := run_convert_bytes_back (P := Try.prog) w 64 9 5 x cap [] Try.underlying64 Try.underlying5 Try.underlying9 (fun j hj => by simp at hj)
      simpa using this

theorem fixed_piece (h : RAt w p g bs a l c f) (size : Int) (sb rb : Nat) (hs : w.cell? ⟨sb, 0, none⟩ = some (.int .i64 size)) (hr : w.cell? ⟨rb, 0, none⟩ = some (.pointer (some ⟨p, 0, none⟩))) :
    Calls Try.prog 77 #[.pointer (some ⟨sb, 0, none⟩), .pointer (some ⟨rb, 0, none⟩)] w (Took p g bs l c f w (oFixed bs a size)) := by
  have H := hide h
  have hle := h.le
  clear h
  by_cases h1 : size < 0 ∨ 65535 < size
  · rw [show oFixed bs a size = .error 1 by simp [oFixed, h1]]
    go_enter Try.func77, Try.ntmps77
    rcases h1 with h1 | h1
    · have hd : decide (0 ≤ size) = false := by simp; omega
      go_wp2_with fail
      refine (must_no 1 _).mono ?_
      rintro e w1 ⟨rfl, rfl⟩
      go_wp2
      exact ⟨rfl, rfl, ⟨_, unhide H⟩, Fr.refl _ _⟩
    · have hd : decide (0 ≤ size) = true := by simp; omega
      have hd2 : decide (size ≤ 65535) = false := by simp; omega
      go_wp2_with fail
      refine (must_no 1 _).mono ?_
      rintro e w1 ⟨rfl, rfl⟩
      go_wp2
      exact ⟨rfl, rfl, ⟨_, unhide H⟩, Fr.refl _ _⟩
  obtain ⟨k, rfl⟩ : ∃ k : Nat, size = k := ⟨size.toNat, by omega⟩
  have hd : decide (0 ≤ (k : Int)) = true := by simp
  have hd2 : decide ((k : Int) ≤ 65535) = true := by simp; omega
  by_cases h2 : (bs.length : Int) - a < k
  · rw [show oFixed bs a k = .error 10 by simp [oFixed, h1, h2]]
    go_enter Try.func77, Try.ntmps77
    go_wp2_with fail
    refine (must_ok 1 _).mono ?_
    rintro e w1 ⟨rfl, rfl⟩
    go_wp2_with fail
    refine (next_short (unhide H) k h2).mono ?_
    rintro e w1 ⟨rfl, j, rfl⟩
    go_wp2
    exact ⟨rfl, rfl, ⟨_, (unhide H).drewN j⟩, (Fr.refl _ _).drewN j⟩
  have ht : a + k ≤ bs.length := by omega
  obtain ⟨S, HS⟩ : ∃ S, Hid ((⟨((bs.drop a).take k).toArray⟩ : ByteArray) = S) := ⟨_, rfl⟩
  rw [show oFixed bs a k = .ok (.string S, a + k) by rw [← unhide HS]; simp [oFixed, h1, h2]]
  clear h1 h2
  go_enter Try.func77, Try.ntmps77
  go_wp2_with fail
  refine (must_ok 1 _).mono ?_
  rintro e w1 ⟨rfl, rfl⟩
  go_wp2_with fail
  refine (next_ok (unhide H) k ht).mono ?_
  rintro e w1 ⟨⟨A, cap, rfl, hcap, hA⟩, hR, hF⟩
  have hcv := conv_row hR A a k cap ht hA
  rw [unhide HS] at hcv
  have H1 := hide (And.intro hR hF)
  clear hR hF hA
  go_wp2
  go_ret
  exact ⟨rfl, (unhide H1).1, (unhide H1).2⟩

theorem RAt.drew (h : RAt w p g bs a l c f) : RAt w.drew p g bs a l c f := h.stay fun _ _ _ => rfl

theorem Fr.of_drew {S : Nat → Prop} {w w1 : World} (h : Fr S w.drew w1) : Fr S w w1 := ⟨h.os, h.tape, h.output, h.size, h.block⟩

end
end Go.Proofs.Ytlhgfnpialndaaa

/- Contracts of take, at each of its four types, and of the closure that it defers. -/
namespace Go.Proofs.Ytlhgfnpialndaaa
open Go.RowKit

theorem assert_errno (x : Int) (w : World) : (Instr.typeAssert (.iface 28 (.int .i64 x)) 20 28 true).run Try.prog w = .ok (.tuple #[.int .i64 x, .bool true]) w := by kernel_rfl
theorem assert_nil (w : World) : (Instr.typeAssert .nilIface 20 28 true).run Try.prog w = .ok (.tuple #[.int .i64 0, .bool false]) w := by kernel_rfl

/-- How a call that takes a piece comes out, where there was no fault. -/
def Done (p g : Nat) (bs : List UInt8) (a l : Nat) (f : Int) (w : World) (z : Value) (o : Except Int (Value × Nat)) (e : Ending) (w' : World) : Prop :=
  match o with
  | .ok (v, a') => e = .returned v ∧ RAt w' p g bs a' a 0 f ∧ Fr (· = p) w w'
  | .error x => e = .returned z ∧ RAt w' p g bs a l x a ∧ Fr (· = p) w w'

theorem failed_no (p : Nat) (w : World) (h3 : w.cell? ⟨p, 3, none⟩ = some (.int .i64 0)) :
    Calls Try.prog 91 #[.pointer (some ⟨p, 0, none⟩)] w fun e w' => e = .returned (.bool false) ∧ w = w' := failed_any p 0 w h3

theorem makes : ∀ (fn : Fn) (first cap : Array Value) (w : World), (Instr.makeFunc fn first cap).run Try.prog w = .ok (.func fn first cap) w := fun _ _ _ _ => rfl

theorem catch96 (p st rb : Nat) (a : Nat) (x : Int) (older : List PanicEntry) (w : World) (hs : w.cell? ⟨st, 0, none⟩ = some (.int .i64 a)) (hr : w.cell? ⟨rb, 0, none⟩ = some (.pointer (some ⟨p, 0, none⟩)))
    (c1 : ∃ v, w.cell? ⟨p, 1, none⟩ = some v) (c3 : ∃ v, w.cell? ⟨p, 3, none⟩ = some v) (c4 : ∃ v, w.cell? ⟨p, 4, none⟩ = some v) (f1 : w.frozen? ⟨p, 1, none⟩ = false) (f3 : w.frozen? ⟨p, 3, none⟩ = false) (f4 : w.frozen? ⟨p, 4, none⟩ = false) (_hsp : st ≠ p) (_hrp : rb ≠ p) :
    CallsD Try.prog 94 #[.pointer (some ⟨st, 0, none⟩), .pointer (some ⟨rb, 0, none⟩)] (.panicking ({ v := .iface 28 (.int .i64 x), recovered := false } :: older)) w fun e u' w' =>
      e = .returned (.tuple #[]) ∧ u' = .panicking ({ v := .iface 28 (.int .i64 x), recovered := true } :: older) ∧ w' = ((w.setCell ⟨p, 1, none⟩ (.int .i64 a)).setCell ⟨p, 3, none⟩ (.int .i64 x)).setCell ⟨p, 4, none⟩ (.int .i64 a) := by
  obtain ⟨v1, c1⟩ := c1
  obtain ⟨v3, c3⟩ := c3
  obtain ⟨v4, c4⟩ := c4
  refine callsD_of_wpS Try.func94 rfl fun c₀ cs hu => ?_
  apply wpS_seq
  apply wpS_region
  simp [wpOpsS, go_sem, recoverD, hu, Try.ntmps94, Exit.thenS, assert_errno]
  apply wpS_seq
  apply wpS_region
  simp [wpOpsS, go_sem, Exit.thenS]
  refine wpS_cond (t := true) (by simp [Act.eval, Array.replicate]) ?_
  simp only [if_true]
  refine wpS_of_wp ?_
  go_wp2
  exact ⟨rfl, _, rfl, .tuple #[], by simp [results, Try.results94], rfl, rfl, rfl⟩

theorem idle96 (st rb : Nat) (w : World) :
    CallsD Try.prog 94 #[.pointer (some ⟨st, 0, none⟩), .pointer (some ⟨rb, 0, none⟩)] .returning w fun e u' w' => e = .returned (.tuple #[]) ∧ u' = .returning ∧ w = w' := by
  refine callsD_of_wpS Try.func94 rfl fun c₀ cs hu => ?_
  apply wpS_seq
  apply wpS_region
  simp [wpOpsS, go_sem, recoverD, hu, Try.ntmps94, Exit.thenS, assert_nil]
  apply wpS_seq
  apply wpS_region
  simp [wpOpsS, go_sem, Exit.thenS]
  refine wpS_cond (t := false) (by simp [Act.eval, Array.replicate]) ?_
  simp only [Bool.false_eq_true, if_false]
  refine wpS_of_wp (wp_skip ?_)
  cases c₀
  simp_all [bodyPostS, results, Try.results94]

section
variable {w : World} {p g : Nat} {bs : List UInt8} {a l : Nat} {c f : Int}

theorem take61_failed (h : RAt w p g bs a l c f) (hc : c ≠ 0) (fv : Value) :
    Calls Try.prog 81 #[.pointer (some ⟨p, 0, none⟩), fv] w fun e w' => e = .returned (.int .i64 0) ∧ RAt w' p g bs a l c f ∧ Fr (fun _ => False) w w' := by
  have H := hide h
  have hlt := h.lt
  have hcn : (c != 0) = true := by simp [hc]
  clear h hc
  go_enter_defers Try.func81, Try.ntmps81
  go_wp2_with fail
  refine (failed_any p c _ ((unhide H).alloc _).c3).mono ?_
  rintro e w1 ⟨rfl, rfl⟩
  go_wp2
  exact ⟨_, results_tmp rfl _ _ _, rfl, (unhide H).alloc _, (Fr.refl _ _).alloc _⟩

end

section
variable {w : World} {p g : Nat} {bs : List UInt8} {a l : Nat} {f : Int}

theorem take62_any (h : RAt w p g bs a l 0 f) (caps : Array Value) (o : Except Int (Value × Nat))
    (hpiece : ∀ w1, Fr (fun _ => False) w w1 → RAt w1 p g bs a l 0 f → Calls Try.prog 82 caps w1 (Took p g bs l 0 f w1 o)) :
    Calls Try.prog 81 #[.pointer (some ⟨p, 0, none⟩), .func (Fn.func 82) #[] caps] w (Done p g bs a l f w (.int .i64 0) o) := by
  have H := hide h
  have HP := hide hpiece
  have hlt := h.lt
  have hmf := makes
  have hat := h.c1
  clear h hpiece
  go_enter_defers Try.func81, Try.ntmps81
  go_wp2_with fail
  refine (failed_no p _ ((unhide H).alloc _).c3).mono ?_
  rintro e w1 ⟨rfl, rfl⟩
  go_wp2_with fail
  have hn0 : w.heap.size ≠ p := by omega
  have hn1 : w.heap.size + 1 ≠ p := by omega
  have hF0 : Fr (fun _ => False) w ((w.alloc (.cells #[.pointer (some ⟨p, 0, none⟩)] 80)).alloc (.cells #[.int .i64 a] 3)) := ((Fr.refl _ _).alloc _).alloc _
  have hR0 := ((unhide H).alloc (.cells #[.pointer (some ⟨p, 0, none⟩)] 80)).alloc (.cells #[.int .i64 a] 3)
  have hb0 : ((w.alloc (.cells #[.pointer (some ⟨p, 0, none⟩)] 80)).alloc (.cells #[.int .i64 a] 3)).cell? ⟨w.heap.size, 0, none⟩ = some (.pointer (some ⟨p, 0, none⟩)) := by simp [go_sem]
  have hb1 : ((w.alloc (.cells #[.pointer (some ⟨p, 0, none⟩)] 80)).alloc (.cells #[.int .i64 a] 3)).cell? ⟨w.heap.size + 1, 0, none⟩ = some (.int .i64 a) := by simp [go_sem]
  refine (unhide HP _ hF0 hR0).mono ?_
  cases o with
  | ok va =>
    obtain ⟨v, a'⟩ := va
    rintro e w2 ⟨rfl, hR, hF⟩
    have k0 := (hF.cell (a := ⟨w.heap.size, 0, none⟩) (by simp; omega) hn0).trans hb0
    have k1 := (hF.cell (a := ⟨w.heap.size + 1, 0, none⟩) (by simp) hn1).trans hb1
    have k2 := hR.c2
    have fz2 := hR.fz 2 (by omega)
    have H2 := hide (And.intro hR ((hF0.mono (T := (· = p)) (fun _ _ t => t.elim)).trans hF (fun _ _ t => t)))
    clear hR hF hR0 hF0 hb0 hb1 HP H hat
    go_wp2
    refine leaves_cons (f := 94) (args := #[.pointer (some ⟨w.heap.size + 1, 0, none⟩), .pointer (some ⟨w.heap.size, 0, none⟩)]) (by simp) (by simp [go_sem]) ?_
    refine (idle96 _ _ _).mono ?_
    rintro e u' w'' ⟨rfl, rfl, rfl⟩
    exact ⟨_, results_tmp rfl _ _ _, rfl, (unhide H2).1.setLast a, (unhide H2).2.setCell (p := ⟨p, 2, none⟩) (fun _ => rfl) _⟩
  | error x =>
    rintro e w2 ⟨rfl, ⟨a', hR⟩, hF⟩
    have k0 := (hF.cell (a := ⟨w.heap.size, 0, none⟩) (by simp; omega) hn0).trans hb0
    have k1 := (hF.cell (a := ⟨w.heap.size + 1, 0, none⟩) (by simp) hn1).trans hb1
    have hF2 : Fr (· = p) w w2 := (hF0.mono (T := (· = p)) (fun _ _ t => t.elim)).trans hF (fun _ _ t => t)
    refine leaves_cons (f := 94) (args := #[.pointer (some ⟨w.heap.size + 1, 0, none⟩), .pointer (some ⟨w.heap.size, 0, none⟩)]) (by simp) (by simp [go_sem]) ?_
    refine (catch96 p (w.heap.size + 1) w.heap.size a x [] w2 k1 k0 ⟨_, hR.c1⟩ ⟨_, hR.c3⟩ ⟨_, hR.c4⟩ (hR.fz 1 (by omega)) (hR.fz 3 (by omega)) (hR.fz 4 (by omega)) hn1 hn0).mono ?_
    rintro e u' w'' ⟨rfl, rfl, rfl⟩
    exact ⟨_, results_tmp rfl _ _ _, rfl, ((hR.setAt a (unhide H).le).setCode x).setPlace a, ((hF2.setCell (p := ⟨p, 1, none⟩) (fun _ => rfl) _).setCell (p := ⟨p, 3, none⟩) (fun _ => rfl) _).setCell (p := ⟨p, 4, none⟩) (fun _ => rfl) _⟩

end

section
variable {w : World} {p g : Nat} {bs : List UInt8} {a l : Nat} {f : Int}

end

section
variable {w : World} {p g : Nat} {bs : List UInt8} {a l : Nat} {f : Int}

end

section
variable {w : World} {p g : Nat} {bs : List UInt8} {a l : Nat} {c f : Int}

end

section
variable {w : World} {p g : Nat} {bs : List UInt8} {a l : Nat} {f : Int}

end

section
variable {w : World} {p g : Nat} {bs : List UInt8} {a l : Nat} {c f : Int}

end

section
variable {w : World} {p g : Nat} {bs : List UInt8} {a l : Nat} {f : Int}

end

theorem catch99 (p st rb : Nat) (a : Nat) (x : Int) (older : List PanicEntry) (w : World) (hs : w.cell? ⟨st, 0, none⟩ = some (.int .i64 a)) (hr : w.cell? ⟨rb, 0, none⟩ = some (.pointer (some ⟨p, 0, none⟩)))
    (c1 : ∃ v, w.cell? ⟨p, 1, none⟩ = some v) (c3 : ∃ v, w.cell? ⟨p, 3, none⟩ = some v) (c4 : ∃ v, w.cell? ⟨p, 4, none⟩ = some v) (f1 : w.frozen? ⟨p, 1, none⟩ = false) (f3 : w.frozen? ⟨p, 3, none⟩ = false) (f4 : w.frozen? ⟨p, 4, none⟩ = false) (_hsp : st ≠ p) (_hrp : rb ≠ p) :
    CallsD Try.prog 92 #[.pointer (some ⟨st, 0, none⟩), .pointer (some ⟨rb, 0, none⟩)] (.panicking ({ v := .iface 28 (.int .i64 x), recovered := false } :: older)) w fun e u' w' =>
      e = .returned (.tuple #[]) ∧ u' = .panicking ({ v := .iface 28 (.int .i64 x), recovered := true } :: older) ∧ w' = ((w.setCell ⟨p, 1, none⟩ (.int .i64 a)).setCell ⟨p, 3, none⟩ (.int .i64 x)).setCell ⟨p, 4, none⟩ (.int .i64 a) := by
  obtain ⟨v1, c1⟩ := c1
  obtain ⟨v3, c3⟩ := c3
  obtain ⟨v4, c4⟩ := c4
  refine callsD_of_wpS Try.func92 rfl fun c₀ cs hu => ?_
  apply wpS_seq
  apply wpS_region
  simp [wpOpsS, go_sem, recoverD, hu, Try.ntmps92, Exit.thenS, assert_errno]
  apply wpS_seq
  apply wpS_region
  simp [wpOpsS, go_sem, Exit.thenS]
  refine wpS_cond (t := true) (by simp [Act.eval, Array.replicate]) ?_
  simp only [if_true]
  refine wpS_of_wp ?_
  go_wp2
  exact ⟨rfl, _, rfl, .tuple #[], by simp [results, Try.results92], rfl, rfl, rfl⟩

theorem idle99 (st rb : Nat) (w : World) :
    CallsD Try.prog 92 #[.pointer (some ⟨st, 0, none⟩), .pointer (some ⟨rb, 0, none⟩)] .returning w fun e u' w' => e = .returned (.tuple #[]) ∧ u' = .returning ∧ w = w' := by
  refine callsD_of_wpS Try.func92 rfl fun c₀ cs hu => ?_
  apply wpS_seq
  apply wpS_region
  simp [wpOpsS, go_sem, recoverD, hu, Try.ntmps92, Exit.thenS, assert_nil]
  apply wpS_seq
  apply wpS_region
  simp [wpOpsS, go_sem, Exit.thenS]
  refine wpS_cond (t := false) (by simp [Act.eval, Array.replicate]) ?_
  simp only [Bool.false_eq_true, if_false]
  refine wpS_of_wp (wp_skip ?_)
  cases c₀
  simp_all [bodyPostS, results, Try.results92]

section
variable {w : World} {p g : Nat} {bs : List UInt8} {a l : Nat} {c f : Int}

theorem take72_failed (h : RAt w p g bs a l c f) (hc : c ≠ 0) (fv : Value) :
    Calls Try.prog 76 #[.pointer (some ⟨p, 0, none⟩), fv] w fun e w' => e = .returned (.string ⟨#[]⟩) ∧ RAt w' p g bs a l c f ∧ Fr (fun _ => False) w w' := by
  have H := hide h
  have hlt := h.lt
  have hcn : (c != 0) = true := by simp [hc]
  clear h hc
  go_enter_defers Try.func76, Try.ntmps76
  go_wp2_with fail
  refine (failed_any p c _ ((unhide H).alloc _).c3).mono ?_
  rintro e w1 ⟨rfl, rfl⟩
  go_wp2
  exact ⟨_, results_tmp rfl _ _ _, rfl, (unhide H).alloc _, (Fr.refl _ _).alloc _⟩

end

section
variable {w : World} {p g : Nat} {bs : List UInt8} {a l : Nat} {f : Int}

end

section
variable {w : World} {p g : Nat} {bs : List UInt8} {a l : Nat} {f : Int}

theorem take76_any (h : RAt w p g bs a l 0 f) (caps : Array Value) (o : Except Int (Value × Nat))
    (hpiece : ∀ w1, Fr (fun _ => False) w w1 → RAt w1 p g bs a l 0 f → Calls Try.prog 77 caps w1 (Took p g bs l 0 f w1 o)) :
    Calls Try.prog 76 #[.pointer (some ⟨p, 0, none⟩), .func (Fn.func 77) #[] caps] w (Done p g bs a l f w (.string ⟨#[]⟩) o) := by
  have H := hide h
  have HP := hide hpiece
  have hlt := h.lt
  have hmf := makes
  have hat := h.c1
  clear h hpiece
  go_enter_defers Try.func76, Try.ntmps76
  go_wp2_with fail
  refine (failed_no p _ ((unhide H).alloc _).c3).mono ?_
  rintro e w1 ⟨rfl, rfl⟩
  go_wp2_with fail
  have hn0 : w.heap.size ≠ p := by omega
  have hn1 : w.heap.size + 1 ≠ p := by omega
  have hF0 : Fr (fun _ => False) w ((w.alloc (.cells #[.pointer (some ⟨p, 0, none⟩)] 80)).alloc (.cells #[.int .i64 a] 3)) := ((Fr.refl _ _).alloc _).alloc _
  have hR0 := ((unhide H).alloc (.cells #[.pointer (some ⟨p, 0, none⟩)] 80)).alloc (.cells #[.int .i64 a] 3)
  have hb0 : ((w.alloc (.cells #[.pointer (some ⟨p, 0, none⟩)] 80)).alloc (.cells #[.int .i64 a] 3)).cell? ⟨w.heap.size, 0, none⟩ = some (.pointer (some ⟨p, 0, none⟩)) := by simp [go_sem]
  have hb1 : ((w.alloc (.cells #[.pointer (some ⟨p, 0, none⟩)] 80)).alloc (.cells #[.int .i64 a] 3)).cell? ⟨w.heap.size + 1, 0, none⟩ = some (.int .i64 a) := by simp [go_sem]
  refine (unhide HP _ hF0 hR0).mono ?_
  cases o with
  | ok va =>
    obtain ⟨v, a'⟩ := va
    rintro e w2 ⟨rfl, hR, hF⟩
    have k0 := (hF.cell (a := ⟨w.heap.size, 0, none⟩) (by simp; omega) hn0).trans hb0
    have k1 := (hF.cell (a := ⟨w.heap.size + 1, 0, none⟩) (by simp) hn1).trans hb1
    have k2 := hR.c2
    have fz2 := hR.fz 2 (by omega)
    have H2 := hide (And.intro hR ((hF0.mono (T := (· = p)) (fun _ _ t => t.elim)).trans hF (fun _ _ t => t)))
    clear hR hF hR0 hF0 hb0 hb1 HP H hat
    go_wp2
    refine leaves_cons (f := 92) (args := #[.pointer (some ⟨w.heap.size + 1, 0, none⟩), .pointer (some ⟨w.heap.size, 0, none⟩)]) (by simp) (by simp [go_sem]) ?_
    refine (idle99 _ _ _).mono ?_
    rintro e u' w'' ⟨rfl, rfl, rfl⟩
    exact ⟨_, results_tmp rfl _ _ _, rfl, (unhide H2).1.setLast a, (unhide H2).2.setCell (p := ⟨p, 2, none⟩) (fun _ => rfl) _⟩
  | error x =>
    rintro e w2 ⟨rfl, ⟨a', hR⟩, hF⟩
    have k0 := (hF.cell (a := ⟨w.heap.size, 0, none⟩) (by simp; omega) hn0).trans hb0
    have k1 := (hF.cell (a := ⟨w.heap.size + 1, 0, none⟩) (by simp) hn1).trans hb1
    have hF2 : Fr (· = p) w w2 := (hF0.mono (T := (· = p)) (fun _ _ t => t.elim)).trans hF (fun _ _ t => t)
    refine leaves_cons (f := 92) (args := #[.pointer (some ⟨w.heap.size + 1, 0, none⟩), .pointer (some ⟨w.heap.size, 0, none⟩)]) (by simp) (by simp [go_sem]) ?_
    refine (catch99 p (w.heap.size + 1) w.heap.size a x [] w2 k1 k0 ⟨_, hR.c1⟩ ⟨_, hR.c3⟩ ⟨_, hR.c4⟩ (hR.fz 1 (by omega)) (hR.fz 3 (by omega)) (hR.fz 4 (by omega)) hn1 hn0).mono ?_
    rintro e u' w'' ⟨rfl, rfl, rfl⟩
    exact ⟨_, results_tmp rfl _ _ _, rfl, ((hR.setAt a (unhide H).le).setCode x).setPlace a, ((hF2.setCell (p := ⟨p, 1, none⟩) (fun _ => rfl) _).setCell (p := ⟨p, 3, none⟩) (fun _ => rfl) _).setCell (p := ⟨p, 4, none⟩) (fun _ => rfl) _⟩

end

end Go.Proofs.Ytlhgfnpialndaaa

/- Contracts of the reader's exported calls: what each answers, and what becomes of the reader. -/
namespace Go.Proofs.Ytlhgfnpialndaaa
open Go.RowKit

/-- A reader's state: where it is, where the last piece began, the fault's code and place. -/
structure RS where
  a : Nat
  l : Nat
  c : Int
  f : Int

abbrev RS.At (s : RS) (w : World) (p g : Nat) (bs : List UInt8) : Prop := RAt w p g bs s.a s.l s.c s.f

/-- A call that takes a piece: the answer and the state behind it. -/
def stepR (s : RS) (z : Value) (o : Except Int (Value × Nat)) : Value × RS :=
  if s.c = 0 then
    match o with
    | .ok (v, a') => (v, ⟨a', s.a, 0, s.f⟩)
    | .error x => (z, ⟨s.a, s.l, x, s.a⟩)
  else (z, s)

theorem done_step {s : RS} {w w' : World} {p g : Nat} {bs : List UInt8} {z : Value} {o : Except Int (Value × Nat)} {e : Ending} (hc : s.c = 0) (h : Done p g bs s.a s.l s.f w z o e w') :
    e = .returned (stepR s z o).1 ∧ (stepR s z o).2.At w' p g bs ∧ Fr (· = p) w w' := by
  cases o with
  | ok va => obtain ⟨v, a'⟩ := va; obtain ⟨h1, h2, h3⟩ := h; simp only [stepR, hc, if_true]; exact ⟨h1, h2, h3⟩
  | error x => obtain ⟨h1, h2, h3⟩ := h; simp only [stepR, hc, if_true]; exact ⟨h1, h2, h3⟩

theorem Done.of_fr {p g : Nat} {bs : List UInt8} {a l : Nat} {f : Int} {w w1 w' : World} {z : Value} {o : Except Int (Value × Nat)} {e : Ending} (h : Done p g bs a l f w1 z o e w') (hF : Fr (fun _ => False) w w1) : Done p g bs a l f w z o e w' := by
  cases o with
  | ok va => obtain ⟨v, a'⟩ := va; exact ⟨h.1, h.2.1, (hF.mono (T := (· = p)) (fun _ _ t => t.elim)).trans h.2.2 (fun _ _ t => t)⟩
  | error x => exact ⟨h.1, h.2.1, (hF.mono (T := (· = p)) (fun _ _ t => t.elim)).trans h.2.2 (fun _ _ t => t)⟩

theorem rnumber_zero {w : World} {p g : Nat} {bs : List UInt8} {a l : Nat} {f : Int} (h : RAt w p g bs a l 0 f) (size : Int) :
    Calls Try.prog 61 #[.pointer (some ⟨p, 0, none⟩), .int .i64 size] w (Done p g bs a l f w (.int .i64 0) (oNumber bs a size)) := by
  have H := hide h
  have hlt := h.lt
  have hmf := makes
  clear h
  go_enter Try.func61, Try.ntmps61
  go_wp2_with fail
  have hn0 : w.heap.size ≠ p := by omega
  have hn1 : w.heap.size + 1 ≠ p := by omega
  have hF0 : Fr (fun _ => False) w ((w.alloc (.cells #[.pointer (some ⟨p, 0, none⟩)] 80)).alloc (.cells #[.int .i64 size] 3)) := (((Fr.refl _ _).alloc _).alloc _)
  refine (take62_any (((unhide H).alloc (.cells #[.pointer (some ⟨p, 0, none⟩)] 80)).alloc (.cells #[.int .i64 size] 3)) _ (oNumber bs a size) ?_).mono ?_
  · intro w1 hF hR
    have k0 : w1.cell? ⟨w.heap.size, 0, none⟩ = some (.pointer (some ⟨p, 0, none⟩)) := (hF.cell (a := ⟨w.heap.size, 0, none⟩) (by simp; omega) (fun t => t)).trans (by simp [go_sem])
    have k1 : w1.cell? ⟨w.heap.size + 1, 0, none⟩ = some (.int .i64 size) := (hF.cell (a := ⟨w.heap.size + 1, 0, none⟩) (by simp) (fun t => t)).trans (by simp [go_sem])
    exact number_piece hR size _ _ k1 k0
  rintro e w1 hD
  have hD' := hD.of_fr hF0
  have HD := hide hD'
  clear hD hD' hF0 H hn1
  cases ho : oNumber bs a size with
  | ok va =>
    obtain ⟨v, a'⟩ := va
    rw [ho] at HD
    obtain ⟨rfl, hD⟩ := unhide HD
    have HD2 := hide hD
    have Ho := hide ho
    clear HD hD ho
    go_wp2
    go_ret
    rw [unhide Ho]
    exact ⟨rfl, unhide HD2⟩
  | error x =>
    rw [ho] at HD
    obtain ⟨rfl, hD⟩ := unhide HD
    have HD2 := hide hD
    have Ho := hide ho
    clear HD hD ho
    go_wp2
    go_ret
    rw [unhide Ho]
    exact ⟨rfl, unhide HD2⟩

theorem rnumber_failed {w : World} {p g : Nat} {bs : List UInt8} {a l : Nat} {c f : Int} (h : RAt w p g bs a l c f) (hc : c ≠ 0) (size : Int) :
    Calls Try.prog 61 #[.pointer (some ⟨p, 0, none⟩), .int .i64 size] w fun e w' => e = .returned (.int .i64 0) ∧ RAt w' p g bs a l c f ∧ Fr (fun _ => False) w w' := by
  have H := hide h
  have Hc := hide hc
  have hlt := h.lt
  have hmf := makes
  clear h hc
  go_enter Try.func61, Try.ntmps61
  go_wp2_with fail
  have hF0 : Fr (fun _ => False) w ((w.alloc (.cells #[.pointer (some ⟨p, 0, none⟩)] 80)).alloc (.cells #[.int .i64 size] 3)) := (((Fr.refl _ _).alloc _).alloc _)
  refine (take61_failed (((unhide H).alloc (.cells #[.pointer (some ⟨p, 0, none⟩)] 80)).alloc (.cells #[.int .i64 size] 3)) (unhide Hc) _).mono ?_
  rintro e w1 ⟨rfl, hR, hF⟩
  have HD2 := hide (And.intro hR (hF0.trans hF (fun _ _ t => t)))
  clear hR hF hF0
  go_wp2
  go_ret
  exact ⟨rfl, unhide HD2⟩

/-- Number -/
theorem rnumber_any {w : World} {p g : Nat} {bs : List UInt8} {s : RS} (h : s.At w p g bs) (size : Int) :
    Calls Try.prog 61 #[.pointer (some ⟨p, 0, none⟩), .int .i64 size] w fun e w' => e = .returned (stepR s (.int .i64 0) (oNumber bs s.a size)).1 ∧ (stepR s (.int .i64 0) (oNumber bs s.a size)).2.At w' p g bs ∧ Fr (· = p) w w' := by
  by_cases hc : s.c = 0
  · have h0 : RAt w p g bs s.a s.l 0 s.f := hc ▸ h
    exact (rnumber_zero h0 size).mono fun e w' hD => done_step hc hD
  · refine (rnumber_failed h hc size).mono ?_
    rintro e w' ⟨rfl, hR, hF⟩
    rw [show stepR s (.int .i64 0) (oNumber bs s.a size) = (.int .i64 0, s) by simp only [stepR, hc, if_false]]
    exact ⟨rfl, hR, hF.mono (fun _ _ t => t.elim)⟩

theorem rfixed_zero {w : World} {p g : Nat} {bs : List UInt8} {a l : Nat} {f : Int} (h : RAt w p g bs a l 0 f) (size : Int) :
    Calls Try.prog 58 #[.pointer (some ⟨p, 0, none⟩), .int .i64 size] w (Done p g bs a l f w (.string ⟨#[]⟩) (oFixed bs a size)) := by
  have H := hide h
  have hlt := h.lt
  have hmf := makes
  clear h
  go_enter Try.func58, Try.ntmps58
  go_wp2_with fail
  have hn0 : w.heap.size ≠ p := by omega
  have hn1 : w.heap.size + 1 ≠ p := by omega
  have hF0 : Fr (fun _ => False) w ((w.alloc (.cells #[.pointer (some ⟨p, 0, none⟩)] 80)).alloc (.cells #[.int .i64 size] 3)) := (((Fr.refl _ _).alloc _).alloc _)
  refine (take76_any (((unhide H).alloc (.cells #[.pointer (some ⟨p, 0, none⟩)] 80)).alloc (.cells #[.int .i64 size] 3)) _ (oFixed bs a size) ?_).mono ?_
  · intro w1 hF hR
    have k0 : w1.cell? ⟨w.heap.size, 0, none⟩ = some (.pointer (some ⟨p, 0, none⟩)) := (hF.cell (a := ⟨w.heap.size, 0, none⟩) (by simp; omega) (fun t => t)).trans (by simp [go_sem])
    have k1 : w1.cell? ⟨w.heap.size + 1, 0, none⟩ = some (.int .i64 size) := (hF.cell (a := ⟨w.heap.size + 1, 0, none⟩) (by simp) (fun t => t)).trans (by simp [go_sem])
    exact fixed_piece hR size _ _ k1 k0
  rintro e w1 hD
  have hD' := hD.of_fr hF0
  have HD := hide hD'
  clear hD hD' hF0 H hn1
  cases ho : oFixed bs a size with
  | ok va =>
    obtain ⟨v, a'⟩ := va
    rw [ho] at HD
    obtain ⟨rfl, hD⟩ := unhide HD
    have HD2 := hide hD
    have Ho := hide ho
    clear HD hD ho
    go_wp2
    go_ret
    rw [unhide Ho]
    exact ⟨rfl, unhide HD2⟩
  | error x =>
    rw [ho] at HD
    obtain ⟨rfl, hD⟩ := unhide HD
    have HD2 := hide hD
    have Ho := hide ho
    clear HD hD ho
    go_wp2
    go_ret
    rw [unhide Ho]
    exact ⟨rfl, unhide HD2⟩

theorem rfixed_failed {w : World} {p g : Nat} {bs : List UInt8} {a l : Nat} {c f : Int} (h : RAt w p g bs a l c f) (hc : c ≠ 0) (size : Int) :
    Calls Try.prog 58 #[.pointer (some ⟨p, 0, none⟩), .int .i64 size] w fun e w' => e = .returned (.string ⟨#[]⟩) ∧ RAt w' p g bs a l c f ∧ Fr (fun _ => False) w w' := by
  have H := hide h
  have Hc := hide hc
  have hlt := h.lt
  have hmf := makes
  clear h hc
  go_enter Try.func58, Try.ntmps58
  go_wp2_with fail
  have hF0 : Fr (fun _ => False) w ((w.alloc (.cells #[.pointer (some ⟨p, 0, none⟩)] 80)).alloc (.cells #[.int .i64 size] 3)) := (((Fr.refl _ _).alloc _).alloc _)
  refine (take72_failed (((unhide H).alloc (.cells #[.pointer (some ⟨p, 0, none⟩)] 80)).alloc (.cells #[.int .i64 size] 3)) (unhide Hc) _).mono ?_
  rintro e w1 ⟨rfl, hR, hF⟩
  have HD2 := hide (And.intro hR (hF0.trans hF (fun _ _ t => t)))
  clear hR hF hF0
  go_wp2
  go_ret
  exact ⟨rfl, unhide HD2⟩

/-- Fixed -/
theorem rfixed_any {w : World} {p g : Nat} {bs : List UInt8} {s : RS} (h : s.At w p g bs) (size : Int) :
    Calls Try.prog 58 #[.pointer (some ⟨p, 0, none⟩), .int .i64 size] w fun e w' => e = .returned (stepR s (.string ⟨#[]⟩) (oFixed bs s.a size)).1 ∧ (stepR s (.string ⟨#[]⟩) (oFixed bs s.a size)).2.At w' p g bs ∧ Fr (· = p) w w' := by
  by_cases hc : s.c = 0
  · have h0 : RAt w p g bs s.a s.l 0 s.f := hc ▸ h
    exact (rfixed_zero h0 size).mono fun e w' hD => done_step hc hD
  · refine (rfixed_failed h hc size).mono ?_
    rintro e w' ⟨rfl, hR, hF⟩
    rw [show stepR s (.string ⟨#[]⟩) (oFixed bs s.a size) = (.string ⟨#[]⟩, s) by simp only [stepR, hc, if_false]]
    exact ⟨rfl, hR, hF.mono (fun _ _ t => t.elim)⟩

end Go.Proofs.Ytlhgfnpialndaaa

