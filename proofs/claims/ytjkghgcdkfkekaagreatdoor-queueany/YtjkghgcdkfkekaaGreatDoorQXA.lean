import Derived.Test.YtjkghgcdkfkekaaGreatDoorYWO
/- Contracts: a queue's Sectors, on both sides. -/
namespace Go.Proofs.YtjkghgcdkfkekaaGreatDoor
open Go.RowKit

def mayQ (n : Int) : Bool := decide (1 ≤ n ∧ n ≤ 4096)
/-- How many sectors each half of a queue's log has. -/
def qH (m : Nat) : Nat := (300 * (m + 4) + 503) / 504
def qsecF (n : Int) : Int := if mayQ n then 2 + 2 * (qH n.toNat : Int) else 0

theorem mayQ_nat {n : Int} (h : mayQ n = true) : ∃ m : Nat, n = m ∧ 1 ≤ m ∧ m ≤ 4096 := by
  have h2 : 1 ≤ n ∧ n ≤ 4096 := by simpa [mayQ] using h
  exact ⟨n.toNat, by omega, by omega, by omega⟩

set_option maxRecDepth 20000 in
theorem qsec_any (w : World) (n : Int) : Calls Tryz.prog 27 #[.int .i64 n] w fun e w' => e = .returned (.int .i64 (qsecF n)) ∧ w' = w := by
  cases hm : mayQ n with
  | false =>
    rw [qsecF, hm, if_neg (by decide)]
    have h2 : ¬ (1 ≤ n ∧ n ≤ 4096) := by simpa [mayQ] using hm
    clear hm
    by_cases h1 : n < 1
    · clear h2
      go_enter Tryz.func27, Tryz.ntmps27
      go_wp2
      go_ret
      exact ⟨rfl, rfl⟩
    · have h3 : 4096 < n := by omega
      clear h2
      go_enter Tryz.func27, Tryz.ntmps27
      go_wp2
      go_ret
      exact ⟨rfl, rfl⟩
  | true =>
    obtain ⟨m, rfl, h1, h2⟩ := mayQ_nat hm
    rw [qsecF, hm, if_pos rfl, Int.toNat_natCast]
    have k1 : (1 : Int) ≤ (m : Int) := by omega
    have k2 : (m : Int) ≤ 4096 := by omega
    have hq : (300 * ((m : Int) + 4) + 504 - 1).tdiv 504 = (qH m : Int) := by
      rw [show (300 * ((m : Int) + 4) + 504 - 1) = ((300 * (m + 4) + 503 : Nat) : Int) by omega, show (504 : Int) = ((504 : Nat) : Int) from rfl, ← Int.ofNat_tdiv]; rfl
    have hqb : (qH m : Int) ≤ 2442 := by unfold qH; omega
    have hq0 : (0 : Int) ≤ (qH m : Int) := by omega
    clear hm h1 h2
    go_enter Tryz.func27, Tryz.ntmps27
    go_wp2
    go_ret
    exact ⟨rfl, rfl⟩

end Go.Proofs.YtjkghgcdkfkekaaGreatDoor

/- Contract: the record of a queue's change. -/
namespace Go.Proofs.YtjkghgcdkfkekaaGreatDoor
open Go.RowKit

/-- The bytes of a change: the mark, its kind, its number, its item (of a put). -/
def qhead (k s : Nat) : Bs := [70, 66, 81, 85] ++ digs k 1 ++ digs s 4
def qraw (k s : Nat) (it : Bs) : Bs := if k = 2 then qhead k s ++ (digs it.length 2 ++ it) else qhead k s
theorem qhead_length (k s : Nat) : (qhead k s).length = 9 := by simp [qhead, digs_length]

set_option maxHeartbeats 1000000 in
set_option maxRecDepth 20000 in
theorem qrecord_any (w : World) (k s : Nat) (hk : k < 256) (hs : s < 4294967296) (io : Option Addr) (ic : Nat) (it : Bs) (hB : BAt w io ic it) (hit : it.length ≤ 65535) :
    Calls Tryz.prog 105 #[.agg #[.int .i64 (k : Int), .int .i64 (s : Int), .slice io it.length ic]] w fun e w' => ∃ v g, e = .returned v ∧ Row w' v g (qraw k s it) ∧ Fr (fun _ => False) w w' ∧ w.heap.size ≤ g := by
  have h1 : stepW (some []) (wFixed ⟨#[70, 66, 81, 85]⟩ 4) = some [70, 66, 81, 85] := by decide +kernel
  have h2 : stepW (some [70, 66, 81, 85]) (wNumber (k : Int) 1) = some ([70, 66, 81, 85] ++ digs k 1) := wput _ k 1 (by omega) (by omega) (by omega)
  have h3 : stepW (some ([70, 66, 81, 85] ++ digs k 1)) (wNumber (s : Int) 4) = some (qhead k s) := wput _ s 4 (by omega) (by omega) (by omega)
  have h4 : stepW (some (qhead k s)) (wText ⟨it.toArray⟩) = some (qhead k s ++ (digs it.length 2 ++ it)) := by
    have e : wText ⟨it.toArray⟩ = some (digs it.length 2 ++ it) := by
      unfold wText
      rw [if_pos (by simpa [ByteArray.size] using hit)]
      simp [ByteArray.size]
    rw [e]; rfl
  have hkl : (k : Int) ≤ 9223372036854775807 := by omega
  have hsl : (s : Int) ≤ 9223372036854775807 := by omega
  have l2 : ([70, 66, 81, 85] ++ digs k 1 : Bs).length = 5 := by simp [digs_length]
  have l3 := qhead_length k s
  have HB := hide (And.intro hB (And.intro h1 (And.intro h2 (And.intro h3 (And.intro h4 (And.intro l2 (And.intro l3 (And.intro hit (And.intro hk hs)))))))))
  have hil : (it.length : Int) ≤ 65535 := by omega
  clear hB h1 h2 h3 h4 l2 l3 hit hk hs
  generalize hC : ([70, 66, 81, 85] ++ digs k 1 : Bs) = C at *
  have HC := hide hC
  clear hC
  obtain ⟨Z, hZ⟩ : ∃ Z, Z = qraw k s it := ⟨_, rfl⟩
  rw [← hZ]
  have HZ := hide hZ
  clear hZ
  generalize hX : qhead k s = X at *
  have HX := hide hX
  clear hX
  have hF0 : Fr (fun _ => False) w (w.alloc (.cells #[.int .i64 (k : Int), .int .i64 (s : Int), .slice io it.length ic] 123)) := (Fr.refl _ _).alloc _
  have hbx := Bx.new w #[.int .i64 (k : Int), .int .i64 (s : Int), .slice io it.length ic] 123
  have HW0 := hide (And.intro hF0 hbx)
  clear hF0 hbx
  go_enter Tryz.func105, Tryz.ntmps105
  go_wp2_with fail
  obtain ⟨hF0, hbx⟩ := unhide HW0
  generalize w.alloc (.cells #[.int .i64 (k : Int), .int .i64 (s : Int), .slice io it.length ic] 123) = w0 at *
  obtain ⟨q, hq⟩ : ∃ q, q = w.heap.size := ⟨_, rfl⟩
  rw [← hq] at hbx ⊢
  have HW := hide (And.intro hF0 (And.intro hbx hq))
  clear hF0 hbx hq HW0
  refine (newwriter_any _).mono ?_
  rintro e w1 ⟨rfl, rfl⟩
  have hO := WOwn.new w0
  generalize w0.alloc (.cells #[.slice none 0 0, .bool false] 210) = w1 at *
  have HO := hide hO
  clear hO
  go_wp2_with fail
  refine (wfixed_any (unhide HO).2.2.2 ⟨#[70, 66, 81, 85]⟩ 4 (fun bs h => by cases h; simp [ByteArray.size])).mono ?_
  rintro e w2 ⟨rfl, hP⟩
  rw [(unhide HB).2.1] at hP
  obtain ⟨g2, hO2⟩ := (unhide HO).next hP
  have c0 : w2.cell? ⟨q, 0, none⟩ = some (.int .i64 (k : Int)) := ((unhide HW).2.1.keep hO2.1).cell 0
  have HO2 := hide hO2
  clear hP hO2 HO
  go_wp2_with fail
  refine (wnumber_any (unhide HO2).2.2.2 (fun bs h => by cases h; simp) (k : Int) 1 hkl).mono ?_
  rintro e w3 ⟨rfl, hP⟩
  rw [(unhide HB).2.2.1] at hP
  obtain ⟨g3, hO3⟩ := (unhide HO2).next hP
  have c1 : w3.cell? ⟨q, 1, none⟩ = some (.int .i64 (s : Int)) := ((unhide HW).2.1.keep hO3.1).cell 1
  have HO3 := hide hO3
  clear hP hO3 HO2 c0
  go_wp2_with fail
  refine (wnumber_any (unhide HO3).2.2.2 (fun bs h => by cases h; rw [(unhide HB).2.2.2.2.2.1]; omega) (s : Int) 4 hsl).mono ?_
  rintro e w4 ⟨rfl, hP⟩
  rw [(unhide HB).2.2.2.1] at hP
  obtain ⟨g4, hO4⟩ := (unhide HO3).next hP
  have c0 : w4.cell? ⟨q, 0, none⟩ = some (.int .i64 (k : Int)) := ((unhide HW).2.1.keep hO4.1).cell 0
  have HO4 := hide hO4
  clear hP hO4 HO3 c1
  by_cases hk2 : k = 2
  · have hk2I : (k : Int) = 2 := by omega
    have HZ2 : Hid (Z = X ++ (digs it.length 2 ++ it)) := by have h := unhide HZ; rw [qraw, if_pos hk2, unhide HX] at h; exact hide h
    clear hk2
    have c2 : w4.cell? ⟨q, 2, none⟩ = some (.slice io it.length ic) := ((unhide HW).2.1.keep (unhide HO4).1).cell 2
    have kv := conv_bat ((unhide HB).1.later ((unhide HW).1.trans (unhide HO4).1 (fun _ _ t => t)))
    go_wp2_with fail
    refine (wtext_any (unhide HO4).2.2.2 ⟨it.toArray⟩ (fun bs h => by cases h; rw [(unhide HB).2.2.2.2.2.2.1]; simp [ByteArray.size]; have := (unhide HB).2.2.2.2.2.2.2.1; omega)).mono ?_
    rintro e w5 ⟨rfl, hP⟩
    rw [(unhide HB).2.2.2.2.1, ← unhide HZ2] at hP
    obtain ⟨g5, hO5⟩ := (unhide HO4).next hP
    have HO5 := hide hO5
    clear hP hO5 HO4 c0 c2 kv
    go_wp2_with fail
    refine (bytes_ok (unhide HO5).2.2.2 (by rw [unhide HZ2, List.length_append, List.length_append, (unhide HB).2.2.2.2.2.2.1, digs_length]; have := (unhide HB).2.2.2.2.2.2.2.1; omega)).mono ?_
    rintro e w6 ⟨v, g6, rfl, hrow, hF6, hg6⟩
    have HR := hide (And.intro hrow (And.intro (((unhide HW).1.trans (unhide HO5).1 (fun _ _ t => t)).trans hF6 (fun _ _ t => t)) (Nat.le_trans ((unhide HW).1.trans (unhide HO5).1 (fun _ _ t => t)).size hg6)))
    obtain ⟨vo, vc, rfl, hjk⟩ := hrow.shape
    clear hrow hF6 hg6 hjk
    go_wp2
    go_ret
    exact ⟨_, g6, rfl, unhide HR⟩
  · have HZ2 : Hid (Z = X) := by have h := unhide HZ; rw [qraw, if_neg hk2, unhide HX] at h; exact hide h
    have hk2I : ¬ ((k : Int) = 2) := by omega
    clear hk2
    go_wp2_with fail
    refine (bytes_ok (unhide HO4).2.2.2 (by rw [(unhide HB).2.2.2.2.2.2.1]; omega)).mono ?_
    rintro e w5 ⟨v, g5, rfl, hrow, hF5, hg5⟩
    have HR := hide (And.intro hrow (And.intro (((unhide HW).1.trans (unhide HO4).1 (fun _ _ t => t)).trans hF5 (fun _ _ t => t)) (Nat.le_trans ((unhide HW).1.trans (unhide HO4).1 (fun _ _ t => t)).size hg5)))
    obtain ⟨vo, vc, rfl, hjk⟩ := hrow.shape
    clear hrow hF5 hg5 hjk c0
    go_wp2
    go_ret
    exact ⟨_, g5, rfl, by rw [unhide HZ2]; exact (unhide HR).1, (unhide HR).2⟩

end Go.Proofs.YtjkghgcdkfkekaaGreatDoor

/- The mathematics of a queue: its row, changes, what records tell. No program is named here. -/
namespace Go.Proofs.YtjkghgcdkfkekaaGreatDoor

/-- A queue's row: up to which number items were let go, and the items. -/
structure Qr where
  acked : Nat
  items : List Bs

/-- A change: its kind (1 a base, 2 a put, 3 an ack), its number, its item. -/
structure Cg where
  k : Nat
  s : Nat
  it : Bs

def Cg.raw (c : Cg) : Bs := qraw c.k c.s c.it
def Qr.last (q : Qr) : Nat := q.acked + q.items.length
def Qr.behind (q : Qr) (c : Cg) : Qr := if c.k = 2 then ⟨q.acked, q.items ++ [c.it]⟩ else if c.k = 3 then ⟨c.s, q.items.drop (c.s - q.acked)⟩ else ⟨c.s, []⟩
def Qr.may (q : Qr) (c : Cg) (first : Bool) : Bool := if c.k = 1 then first else if c.k = 2 then decide (c.s = q.last + 1) && decide (q.items.length < 4096) else if c.k = 3 then decide (q.acked < c.s) && decide (c.s ≤ q.last) else false

/-- A change that may stand in a record. -/
structure Cg.Ok (c : Cg) : Prop where
  k : c.k < 256
  s : c.s < 4294967296
  it : c.it.length ≤ 256
  no : c.k ≠ 2 → c.it = []

theorem qhead_take (k s : Nat) (r : Bs) : ((qhead k s ++ r).drop 4).take 1 = digs k 1 ∧ ((qhead k s ++ r).drop 5).take 4 = digs s 4 ∧ (qhead k s ++ r).drop 9 = r := by
  have h1 : (digs k 1).length = 1 := digs_length k 1
  have h4 : (digs s 4).length = 4 := digs_length s 4
  refine ⟨?_, ?_, ?_⟩
  · rw [qhead, show ([70, 66, 81, 85] ++ digs k 1 ++ digs s 4 ++ r : Bs) = [70, 66, 81, 85] ++ (digs k 1 ++ (digs s 4 ++ r)) by simp]
    rw [List.drop_append_of_le_length (by simp)]
    simp [h1]
  · rw [qhead, show ([70, 66, 81, 85] ++ digs k 1 ++ digs s 4 ++ r : Bs) = ([70, 66, 81, 85] ++ digs k 1) ++ (digs s 4 ++ r) by simp]
    rw [List.drop_left' (by simp [h1]), List.take_left' h4]
  · rw [List.drop_left' (qhead_length k s)]

theorem qraw_split (k s : Nat) (it : Bs) : ∃ r, qraw k s it = qhead k s ++ r ∧ (k = 2 → r = digs it.length 2 ++ it) ∧ (k ≠ 2 → r = []) := by
  by_cases h : k = 2
  · exact ⟨_, by rw [qraw, if_pos h], fun _ => rfl, fun h' => absurd h h'⟩
  · exact ⟨[], by rw [qraw, if_neg h, List.append_nil], fun h' => absurd h' h, fun _ => rfl⟩

/-- What a record's bytes say. -/
def rdq (bs : Bs) : Cg := ⟨num ((bs.drop 4).take 1), num ((bs.drop 5).take 4), if num ((bs.drop 4).take 1) = 2 then bs.drop 11 else []⟩
def rdc (bs : Bs) : Option Cg := if bs = (rdq bs).raw ∧ (rdq bs).it.length ≤ 256 then some (rdq bs) else none

theorem rdq_raw {c : Cg} (h : c.Ok) : rdq c.raw = c := by
  obtain ⟨r, e, r2, rn⟩ := qraw_split c.k c.s c.it
  have e' : c.raw = qhead c.k c.s ++ r := e
  obtain ⟨t1, t2, t3⟩ := qhead_take c.k c.s r
  have n1 : num (digs c.k 1) = c.k := digs_num_lt (by have := h.k; simpa using this)
  have n2 : num (digs c.s 4) = c.s := digs_num_lt (by have := h.s; simpa using this)
  rw [rdq, e', t1, t2, n1, n2]
  have hd : (qhead c.k c.s ++ r).drop 11 = r.drop 2 := by
    rw [show (11 : Nat) = 9 + 2 from rfl, ← List.drop_drop, t3]
  rcases c with ⟨k, s, it⟩
  by_cases hk : k = 2
  · have hr := r2 hk
    simp only at hr hk hd ⊢
    rw [if_pos hk, hd, hr, List.drop_left' (digs_length _ 2)]
  · have hi := h.no hk
    simp only at hi hk ⊢
    rw [if_neg hk, hi]

theorem rdc_raw {c : Cg} (h : c.Ok) : rdc c.raw = some c := by
  rw [rdc, rdq_raw h, if_pos ⟨rfl, h.it⟩]

theorem rdc_some {bs : Bs} {c : Cg} (h : rdc bs = some c) : c.Ok ∧ bs = c.raw := by
  unfold rdc at h
  split at h
  · rename_i hc
    injection h with h
    subst h
    refine ⟨⟨?_, ?_, hc.2, ?_⟩, hc.1⟩
    · have := num_lt ((bs.drop 4).take 1)
      have hl : ((bs.drop 4).take 1).length ≤ 1 := by simp; omega
      have h2 : 256 ^ ((bs.drop 4).take 1).length ≤ 256 ^ 1 := Nat.pow_le_pow_right (by omega) hl
      show num ((bs.drop 4).take 1) < 256
      omega
    · have := num_lt ((bs.drop 5).take 4)
      have hl : ((bs.drop 5).take 4).length ≤ 4 := by simp; omega
      have h2 : 256 ^ ((bs.drop 5).take 4).length ≤ 256 ^ 4 := Nat.pow_le_pow_right (by omega) hl
      show num ((bs.drop 5).take 4) < 4294967296
      have : (256 : Nat) ^ 4 = 4294967296 := by decide
      omega
    · intro hk
      simp only [rdq] at hk ⊢
      rw [if_neg hk]
  · cases h

theorem raw_inj {c c' : Cg} (h : c.Ok) (h' : c'.Ok) (e : c.raw = c'.raw) : c = c' := by
  rw [← rdq_raw h, e, rdq_raw h']

theorem raw_length (c : Cg) (h : c.Ok) : c.raw.length ≤ 267 := by
  obtain ⟨r, e, r2, rn⟩ := qraw_split c.k c.s c.it
  show (qraw c.k c.s c.it).length ≤ 267
  rw [e, List.length_append, qhead_length]
  have := h.it
  by_cases hk : c.k = 2
  · rw [r2 hk, List.length_append, digs_length]; omega
  · rw [rn hk]; simp

/-- The row that records tell. -/
def qfold : Qr → Bool → List Bs → Option Qr
  | q, _, [] => some q
  | q, f, b :: r => match rdc b with
    | none => none
    | some c => if q.may c f then qfold (q.behind c) false r else none
def qOf (rs : List Bs) : Option Qr := qfold ⟨0, []⟩ true rs

theorem qfold_append (a b : List Bs) : ∀ (q : Qr) (f : Bool), qfold q f (a ++ b) = (qfold q f a).bind fun q' => qfold q' (f && a.isEmpty) b := by
  induction a with
  | nil => intro q f; simp [qfold]
  | cons x r ih =>
    intro q f
    simp only [List.cons_append, qfold]
    cases rdc x with
    | none => rfl
    | some c =>
      simp only
      split
      · rw [ih]; simp
      · rfl

theorem qOf_nil : qOf [] = some ⟨0, []⟩ := rfl

theorem qOf_snoc {rs : List Bs} {q : Qr} {c : Cg} (h : qOf rs = some q) (hc : c.Ok) : qOf (rs ++ [c.raw]) = if q.may c rs.isEmpty then some (q.behind c) else none := by
  rw [qOf, qfold_append, show qfold ⟨0, []⟩ true rs = some q from h]
  simp [qfold, rdc_raw hc]

theorem qOf_snoc_ok {rs : List Bs} {q : Qr} {c : Cg} (h : qOf rs = some q) (hc : c.Ok) (hm : q.may c false = true) : qOf (rs ++ [c.raw]) = some (q.behind c) := by
  rw [qOf_snoc h hc]
  have : q.may c rs.isEmpty = true := by
    unfold Qr.may at hm ⊢
    split at hm
    · cases hm
    · rename_i h1; rw [if_neg h1]; exact hm
  rw [if_pos this]

theorem qOf_take {rs : List Bs} {q : Qr} (h : qOf rs = some q) (m : Nat) : ∃ q', qOf (rs.take m) = some q' := by
  have e : qOf (rs.take m ++ rs.drop m) = some q := by rw [List.take_append_drop]; exact h
  rw [qOf, qfold_append] at e
  cases hq : qfold ⟨0, []⟩ true (rs.take m) with
  | none => rw [hq] at e; cases e
  | some q' => exact ⟨q', hq⟩

/-- A row that may be. -/
structure Qr.Ok (q : Qr) (lim : Nat) : Prop where
  last : q.last ≤ 4294967295
  many : q.items.length ≤ lim
  it : ∀ b ∈ q.items, b.length ≤ 256

theorem Qr.Ok.mono {q : Qr} {a b : Nat} (h : q.Ok a) (hab : a ≤ b) : q.Ok b := ⟨h.last, by have := h.many; omega, h.it⟩

/-- The records that tell items. -/
def qputs (n : Nat) : List Bs → List Bs
  | [] => []
  | b :: r => qraw 2 (n + 1) b :: qputs (n + 1) r
theorem qputs_length (n : Nat) (l : List Bs) : (qputs n l).length = l.length := by induction l generalizing n with
  | nil => rfl
  | cons b r ih => simp [qputs, ih]
theorem qputs_snoc (n : Nat) (l : List Bs) (b : Bs) : qputs n (l ++ [b]) = qputs n l ++ [qraw 2 (n + l.length + 1) b] := by
  induction l generalizing n with
  | nil => rfl
  | cons x r ih => simp [qputs, ih]; congr 1; omega
/-- The records that tell a row. -/
def qrecs (q : Qr) : List Bs := qraw 1 q.acked [] :: qputs q.acked q.items
theorem qrecs_length (q : Qr) : (qrecs q).length = q.items.length + 1 := by simp [qrecs, qputs_length]

theorem qfold_puts (l : List Bs) : ∀ (q : Qr), q.last + l.length ≤ 4294967295 → q.items.length + l.length ≤ 4096 → (∀ b ∈ l, b.length ≤ 256) → qfold q false (qputs q.last l) = some ⟨q.acked, q.items ++ l⟩ := by
  induction l with
  | nil => intro q _ _ _; simp [qputs, qfold]
  | cons b r ih =>
    intro q h1 h2 h3
    simp only [List.length_cons] at h1 h2
    have hok : (⟨2, q.last + 1, b⟩ : Cg).Ok := ⟨by show (2 : Nat) < 256; omega, by show q.last + 1 < _; omega, h3 b (by simp), fun h => absurd rfl h⟩
    have hr : rdc (qraw 2 (q.last + 1) b) = some ⟨2, q.last + 1, b⟩ := rdc_raw hok
    have hm : q.may ⟨2, q.last + 1, b⟩ false = true := by
      simp [Qr.may]; omega
    have hb : q.behind ⟨2, q.last + 1, b⟩ = ⟨q.acked, q.items ++ [b]⟩ := by simp [Qr.behind]
    have hl : (⟨q.acked, q.items ++ [b]⟩ : Qr).last = q.last + 1 := by simp [Qr.last]; omega
    have h := ih ⟨q.acked, q.items ++ [b]⟩ (by rw [hl]; omega) (by simp; omega) (fun x hx => h3 x (by simp [hx]))
    rw [hl] at h
    simp only [qputs, qfold, hr, hm, if_true, hb]
    rw [h]; simp

theorem qOf_recs (q : Qr) (h : q.Ok 4096) : qOf (qrecs q) = some q := by
  have h1 := h.last
  have h2 := h.many
  have hok : (⟨1, q.acked, []⟩ : Cg).Ok := ⟨by show (1 : Nat) < 256; omega, by have : q.acked ≤ q.last := Nat.le_add_right _ _; show q.acked < _; omega, by simp, fun _ => rfl⟩
  have hr : rdc (qraw 1 q.acked []) = some ⟨1, q.acked, []⟩ := rdc_raw hok
  have hl : (⟨q.acked, []⟩ : Qr).last = q.acked := by simp [Qr.last]
  have := qfold_puts q.items ⟨q.acked, []⟩ (by rw [hl]; exact h1) (by simpa using h2) h.it
  rw [hl] at this
  rw [qOf, qrecs, qfold, hr]
  simp [Qr.may, Qr.behind, this]

theorem strm_bound (l : List Bs) (h : ∀ b ∈ l, b.length ≤ 267) : (strm l).length ≤ 290 * l.length := by
  have key : ∀ n, n ≤ l.length → (strm (l.take n)).length ≤ 290 * n := by
    intro n
    induction n with
    | zero => intro _; simp [strm_nil]
    | succ n ih =>
      intro hn
      have h1 := ih (by omega)
      have h2 := pos_end l n (by omega)
      have h3 := bgn_lt (strm (l.take n)).length
      have h4 := h l[n] (List.getElem_mem _)
      rw [h2]
      unfold pos
      omega
  have := key l.length (Nat.le_refl _)
  rwa [List.take_length] at this

theorem qputs_small (l : List Bs) : ∀ n, n + l.length ≤ 4294967295 → (∀ b ∈ l, b.length ≤ 256) → ∀ x ∈ qputs n l, x.length ≤ 267 := by
  induction l with
  | nil => intro n _ _ x hx; cases hx
  | cons b r ih =>
    intro n hn hb x hx
    simp only [List.length_cons] at hn
    rcases List.mem_cons.1 hx with rfl | hx
    · exact raw_length ⟨2, n + 1, b⟩ ⟨by show (2 : Nat) < 256; omega, by show n + 1 < _; omega, hb b (by simp), fun h => absurd rfl h⟩
    · exact ih (n + 1) (by omega) (fun y hy => hb y (by simp [hy])) x hx

/-- A row's records have room. -/
theorem qrecs_fit (q : Qr) (lim : Nat) (h : q.Ok lim) : (strm (qrecs q)).length ≤ 504 * qH lim := by
  have h1 := h.last
  have h2 := h.many
  have hs : ∀ x ∈ qrecs q, x.length ≤ 267 := by
    intro x hx
    rcases List.mem_cons.1 hx with rfl | hx
    · rw [qraw, if_neg (by decide), qhead_length]; omega
    · exact qputs_small q.items q.acked h1 h.it x hx
  have := strm_bound _ hs
  rw [qrecs_length] at this
  unfold qH
  omega

theorem hlf_q (lim n : Nat) (h : 2 + 2 * qH lim ≤ n) : qH lim ≤ hlf n := by unfold hlf; omega

/-- What a put, and an ack, that may be makes of a row. -/
theorem Qr.put_ok {q : Qr} {lim : Nat} (h : q.Ok lim) (hl : lim ≤ 4096) (b : Bs) (hb : b.length ≤ 256) (hn : q.items.length < lim) (hm : q.last < 4294967295) :
    (⟨2, q.last + 1, b⟩ : Cg).Ok ∧ q.may ⟨2, q.last + 1, b⟩ false = true ∧ q.behind ⟨2, q.last + 1, b⟩ = ⟨q.acked, q.items ++ [b]⟩ ∧ (⟨q.acked, q.items ++ [b]⟩ : Qr).Ok lim := by
  refine ⟨⟨by show (2 : Nat) < 256; omega, by show q.last + 1 < _; omega, hb, fun h => absurd rfl h⟩, ?_, by simp [Qr.behind], ⟨?_, by simp; omega, fun x hx => ?_⟩⟩
  · simp [Qr.may]; omega
  · simp [Qr.last] at *; omega
  · rcases List.mem_append.1 hx with hx | hx
    · exact h.it x hx
    · simp at hx; subst hx; exact hb

theorem Qr.ack_ok {q : Qr} {lim : Nat} (h : q.Ok lim) (s : Nat) (h1 : q.acked < s) (h2 : s ≤ q.last) :
    (⟨3, s, []⟩ : Cg).Ok ∧ q.may ⟨3, s, []⟩ false = true ∧ q.behind ⟨3, s, []⟩ = ⟨s, q.items.drop (s - q.acked)⟩ ∧ (⟨s, q.items.drop (s - q.acked)⟩ : Qr).Ok lim ∧ (⟨s, q.items.drop (s - q.acked)⟩ : Qr).last = q.last := by
  have hl := h.last
  have hq : q.last = q.acked + q.items.length := rfl
  have hlast : (⟨s, q.items.drop (s - q.acked)⟩ : Qr).last = q.last := by simp [Qr.last] at *; omega
  refine ⟨⟨by show (3 : Nat) < 256; omega, by show s < _; omega, by simp, fun _ => rfl⟩, ?_, by simp [Qr.behind], ⟨by rw [hlast]; exact hl, ?_, fun x hx => h.it x (List.mem_of_mem_drop hx)⟩, hlast⟩
  · simp only [Qr.may]; rw [if_neg (by decide), if_neg (by decide), if_pos trivial]; simp; omega
  · have := h.many; simp; omega

/-- What of a log may be found tells the queue behind some of the calls: stood are the rows behind each, from the number safe on. -/
def Told (rs : List Bs) (s : Nat) (stood : List Qr) (safe : Nat) : Prop := ∀ m, s ≤ m → m ≤ rs.length → ∃ i q, safe ≤ i ∧ stood[i]? = some q ∧ qOf (rs.take m) = some q

theorem Told.more {rs : List Bs} {s safe : Nat} {stood : List Qr} (h : Told rs s stood safe) (x : List Qr) : Told rs s (stood ++ x) safe := fun m h1 h2 => by
  obtain ⟨i, q, a, b, c⟩ := h m h1 h2
  exact ⟨i, q, a, by rw [List.getElem?_append_left (List.getElem?_eq_some_iff.1 b).1]; exact b, c⟩

theorem Told.put {rs : List Bs} {s safe : Nat} {stood : List Qr} (h : Told rs s stood safe) (x : Bs) (q : Qr) (hq : qOf (rs ++ [x]) = some q) (hs : safe ≤ stood.length) : Told (rs ++ [x]) s (stood ++ [q]) safe := fun m h1 h2 => by
  rw [List.length_append, List.length_singleton] at h2
  by_cases hm : m ≤ rs.length
  · rw [List.take_append_of_le_length hm]
    exact h.more [q] m h1 hm
  · obtain rfl : m = rs.length + 1 := by omega
    refine ⟨stood.length, q, hs, by simp, ?_⟩
    rw [List.take_of_length_le (by simp)]; exact hq

theorem Told.all {rs : List Bs} {stood : List Qr} {safe i : Nat} {q : Qr} (hq : qOf rs = some q) (hi : safe ≤ i) (hs : stood[i]? = some q) : Told rs rs.length stood safe := fun m h1 h2 => by
  obtain rfl : m = rs.length := by omega
  exact ⟨i, q, hi, hs, by rw [List.take_length]; exact hq⟩

theorem qfold_one (q : Qr) (f : Bool) (b : Bs) (r : List Bs) : qfold q f (b :: r) = match rdc b with
    | none => none
    | some c => if q.may c f then qfold (q.behind c) false r else none := rfl

theorem qfold_at {rs : List Bs} {i : Nat} {q : Qr} (hi : i < rs.length) (h : qOf (rs.take i) = some q) :
    (qOf rs = match rdc rs[i] with
      | none => none
      | some c => if q.may c (decide (i = 0)) then qfold (q.behind c) false (rs.drop (i + 1)) else none) ∧
    (qOf (rs.take (i + 1)) = match rdc rs[i] with
      | none => none
      | some c => if q.may c (decide (i = 0)) then some (q.behind c) else none) := by
  have he : (true && (rs.take i).isEmpty) = decide (i = 0) := by
    rcases Nat.eq_zero_or_pos i with rfl | h0
    · simp
    · rw [decide_eq_false (by omega)]
      cases hrs : rs with
      | nil => rw [hrs] at hi; simp at hi
      | cons x y =>
        obtain ⟨j, rfl⟩ : ∃ j, i = j + 1 := ⟨i - 1, by omega⟩
        simp
  have e1 : rs = rs.take i ++ rs[i] :: rs.drop (i + 1) := by
    rw [List.getElem_cons_drop, List.take_append_drop]
  constructor
  · conv => lhs; rw [e1, qOf, qfold_append, show qfold ⟨0, []⟩ true (rs.take i) = some q from h]
    rw [he]; rfl
  · rw [List.take_succ_eq_append_getElem hi, qOf, qfold_append, show qfold ⟨0, []⟩ true (rs.take i) = some q from h, he]
    simp only [Option.bind_some, qfold]

theorem Qr.may_ok {q : Qr} {c : Cg} {f : Bool} (hq : q.Ok 4096) (hc : c.Ok) (hm : q.may c f = true) : (q.behind c).Ok 4096 := by
  have h1 := hq.last
  have h2 := hq.many
  have hl : q.last = q.acked + q.items.length := rfl
  unfold Qr.may at hm
  by_cases k1 : c.k = 1
  · have e : q.behind c = ⟨c.s, []⟩ := by simp [Qr.behind, k1]
    rw [e]
    exact ⟨by have := hc.s; simp [Qr.last]; omega, by simp, fun b hb => by cases hb⟩
  · rw [if_neg k1] at hm
    by_cases k2 : c.k = 2
    · rw [if_pos k2] at hm
      simp at hm
      have e : q.behind c = ⟨q.acked, q.items ++ [c.it]⟩ := by simp [Qr.behind, k2]
      rw [e]
      refine ⟨by have := hc.s; simp [Qr.last] at *; omega, by simp; omega, fun b hb => ?_⟩
      rcases List.mem_append.1 hb with hb | hb
      · exact hq.it b hb
      · simp at hb; subst hb; exact hc.it
    · rw [if_neg k2] at hm
      by_cases k3 : c.k = 3
      · rw [if_pos k3] at hm
        simp at hm
        have e : q.behind c = ⟨c.s, q.items.drop (c.s - q.acked)⟩ := by simp [Qr.behind, k3]
        rw [e]
        exact ⟨by simp [Qr.last] at *; omega, by simp; omega, fun b hb => hq.it b (List.mem_of_mem_drop hb)⟩
      · rw [if_neg k3] at hm; cases hm

theorem qfold_ok (rs : List Bs) : ∀ (q : Qr) (f : Bool) (q' : Qr), q.Ok 4096 → qfold q f rs = some q' → q'.Ok 4096 := by
  induction rs with
  | nil => intro q f q' hq h; simp [qfold] at h; rw [← h]; exact hq
  | cons b r ih =>
    intro q f q' hq h
    rw [qfold_one] at h
    cases hr : rdc b with
    | none => rw [hr] at h; cases h
    | some c =>
      rw [hr] at h
      simp only at h
      split at h
      · rename_i hm
        exact ih _ _ _ (Qr.may_ok hq (rdc_some hr).1 hm) h
      · cases h

theorem qOf_ok {rs : List Bs} {q : Qr} (h : qOf rs = some q) : q.Ok 4096 := qfold_ok rs ⟨0, []⟩ true q ⟨by simp [Qr.last], by simp, fun b hb => by cases hb⟩ h

end Go.Proofs.YtjkghgcdkfkekaaGreatDoor

