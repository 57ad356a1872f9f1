import Derived.Test.YtabhfeocelljdaaGreatDoorSS2
import Derived.Test.YtabhfeocelljdaaGreatDoorBX
import Derived.Test.YtabhfeocelljdaaGreatDoorQK1
import Derived.Deep.Upon
import Derived.Deep.Cut
import Derived.Deep.CutBlock
import Derived.Deep.RegionHeld3
import Derived.Test.YtabhfeocelljdaaGreatDoorC1
/- Frames, and which may be: within, isLong, isBare, itemsMayBe, mayBe. -/
namespace Go.Proofs.YtabhfeocelljdaaGreatDoor
open Go.RowKit

/-- A frame. -/
structure Fm where
  kind : Int
  base : Int
  seq : Int
  items : List (List UInt8)
  bytes : (List UInt8)

/-- Rows of bytes in a row. -/
structure RowsAt (w : World) (ro : Option Addr) (rs : List (List UInt8)) : Prop where
  cells : 0 < rs.length → ∃ b off, ro = some ⟨b, off, none⟩ ∧ ∀ i (h : i < rs.length), ∃ ao cap, w.cell? ⟨b, off + i, none⟩ = some (.slice ao rs[i].length cap) ∧ BAt w ao cap rs[i]
  small : rs.length ≤ 140737488355328

theorem RowsAt.later {w w' : World} {ro : Option Addr} {rs : List (List UInt8)} (h : RowsAt w ro rs) (hF : Fr (fun _ => False) w w') : RowsAt w' ro rs := by
  refine ⟨fun h0 => ?_, h.small⟩
  obtain ⟨b, off, e, hc⟩ := h.cells h0
  refine ⟨b, off, e, fun i hi => ?_⟩
  obtain ⟨ao, cap, c1, c2⟩ := hc i hi
  exact ⟨ao, cap, (hF.cell (a := ⟨b, off + i, none⟩) (World.block_lt_of_cell? _ _ c1) (fun t => t)).trans c1, c2.later hF⟩

/-- A frame's value. -/
def Fm.cells (f : Fm) (io : Option Addr) (ic : Nat) (bo : Option Addr) (bc : Nat) : Array Value := #[.int .i64 f.kind, .int .i64 f.base, .int .i64 f.seq, .slice io f.items.length ic, .slice bo f.bytes.length bc]
structure Fm.At (w : World) (f : Fm) (io : Option Addr) (bo : Option Addr) (bc : Nat) : Prop where
  items : RowsAt w io f.items
  bytes : BAt w bo bc f.bytes
theorem Fm.At.later {w w' : World} {f : Fm} {io bo : Option Addr} {bc : Nat} (h : f.At w io bo bc) (hF : Fr (fun _ => False) w w') : f.At w' io bo bc := ⟨h.items.later hF, h.bytes.later hF⟩

def longB (b : (List UInt8)) : Bool := decide (256 < b.length)
def Fm.bare (f : Fm) : Bool := decide (f.base = 0 ∧ f.items.length = 0 ∧ f.bytes.length = 0)
def Fm.mayItems (f : Fm) : Bool := decide ((1 ≤ f.items.length ∧ f.items.length ≤ 8) ∧ (1 ≤ f.base ∧ f.base ≤ f.seq) ∧ f.seq ≤ 4294967296 - (f.items.length : Int)) && !f.items.any longB
def Fm.may (f : Fm) : Bool :=
  if f.kind = 1 then decide (f.bytes.length = 0) && f.mayItems
  else if f.kind = 2 then f.bare && decide (0 ≤ f.seq ∧ f.seq ≤ 4294967295)
  else if f.kind = 3 then f.bare && decide (0 ≤ f.seq ∧ f.seq ≤ 2147483648)
  else if f.kind = 4 then decide (f.base = 0 ∧ f.seq = 0 ∧ f.items.length = 0 ∧ f.bytes.length ≤ 16100)
  else false

theorem within_any (w : World) (n a b : Int) : Calls Tryz.prog 37 #[.int .i64 n, .int .i64 a, .int .i64 b] w fun e w' => e = .returned (.bool (decide (a ≤ n ∧ n ≤ b))) ∧ w' = w := by
  by_cases h1 : a ≤ n
  · by_cases h2 : n ≤ b
    · have e : decide (a ≤ n ∧ n ≤ b) = true := by simp; omega
      rw [e]
      have d1 : decide (n ≥ a) = true := by simp; omega
      have d2 : decide (n ≤ b) = true := by simp; omega
      clear e
      go_enter Tryz.func37, Tryz.ntmps37
      go_wp2
      go_ret
      exact ⟨rfl, rfl⟩
    · have e : decide (a ≤ n ∧ n ≤ b) = false := by simp; omega
      rw [e]
      have d1 : decide (n ≥ a) = true := by simp; omega
      have d2 : decide (n ≤ b) = false := by simp; omega
      clear e
      go_enter Tryz.func37, Tryz.ntmps37
      go_wp2
      go_ret
      exact ⟨rfl, rfl⟩
  · have e : decide (a ≤ n ∧ n ≤ b) = false := by simp; omega
    rw [e]
    have d1 : decide (n ≥ a) = false := by simp; omega
    have d2 : decide (a ≤ n) = false := by simp; omega
    clear e
    go_enter Tryz.func37, Tryz.ntmps37
    go_wp2
    go_ret
    exact ⟨rfl, rfl⟩

theorem llong_any (w : World) (bo : Option Addr) (bc : Nat) (b : (List UInt8)) : Calls Tryz.prog 70 #[.slice bo b.length bc] w fun e w' => e = .returned (.bool (longB b)) ∧ w' = w := by
  have e : decide ((b.length : Int) > 256) = longB b := by
    unfold longB
    by_cases h : 256 < b.length
    · rw [decide_eq_true h, decide_eq_true (by omega)]
    · rw [decide_eq_false h, decide_eq_false (by omega)]
  have e2 : decide ((256 : Int) < (b.length : Int)) = longB b := e
  generalize longB b = r at *
  go_enter Tryz.func70, Tryz.ntmps70
  go_wp2
  go_ret
  exact ⟨rfl, rfl⟩

/-- Where the first is that is too long. -/
def ixL : List (List UInt8) → Nat → Int
  | [], _ => -1
  | b :: r, i => if longB b then (i : Int) else ixL r (i + 1)
theorem ixL_any (l : List (List UInt8)) : ∀ i : Nat, decide (0 ≤ ixL l i) = l.any longB := by
  induction l with
  | nil => intro i; rfl
  | cons b r ih =>
    intro i
    unfold ixL
    by_cases h : longB b = true
    · rw [if_pos h]; simp [h]
    · rw [if_neg h, ih (i + 1)]; simp [h]

set_option maxHeartbeats 1000000 in
set_option maxRecDepth 20000 in
theorem lindex_any (w : World) (ro : Option Addr) (rc : Nat) (rs : List (List UInt8)) (h : RowsAt w ro rs) :
    Calls Tryz.prog 94 #[.slice ro rs.length rc, .func (.func 70) #[] #[]] w fun e w' => e = .returned (.int .i64 (ixL rs 0)) ∧ w' = w := by
  have hs := h.small
  have H := hide h
  have hsI : (rs.length : Int) ≤ 140737488355328 := by omega
  clear h hs
  go_enter Tryz.func94, Tryz.ntmps94
  go_wp2
  go_loopw [5, 8] (fun _ iv wr => ∃ (i : Nat), i ≤ rs.length ∧ iv = .int .i64 i ∧ Hid (wr = w ∧ ixL (rs.drop i) i = ixL rs 0)) (fun _ iv _ => rs.length - (intOf iv).toNat)
  case atStart => exact ⟨0, Nat.zero_le _, rfl, hide ⟨rfl, by simp⟩⟩
  case round =>
    obtain ⟨i, hi, rfl, HI⟩ := hrel
    obtain rfl := (unhide HI).1
    by_cases hil : i < rs.length
    · have hiI : (i : Int) < (rs.length : Int) := by omega
      obtain ⟨b, off, e, hc⟩ := (unhide H).cells (by omega)
      obtain ⟨ao, cap, c1, _⟩ := hc i hil
      subst e
      clear hc
      have ht := (unhide HI).2
      rw [List.drop_eq_getElem_cons hil] at ht
      generalize rs[i] = x at *
      have HT : Hid ((if longB x then (i : Int) else ixL (rs.drop (i + 1)) (i + 1)) = ixL rs 0) := hide ht
      have R := hide (llong_any wr ao cap x)
      clear ht
      generalize longB x = r at *
      go_wp2_with fail
      refine (unhide R).mono ?_
      rintro e w1 ⟨rfl, rfl⟩
      clear R
      cases r with
      | true =>
        have hr : ixL rs 0 = (i : Int) := by have := unhide HT; simpa using this.symm
        go_wp2
        go_ret
        exact ⟨by rw [hr]; rfl, rfl⟩
      | false =>
        go_wp2
        exact ⟨⟨i + 1, by omega, by go_num, hide ⟨trivial, by have := unhide HT; simpa using this⟩⟩, by simp [intOf]; omega⟩
    · obtain rfl : i = rs.length := by omega
      have hr : ixL rs 0 = -1 := by
        have := (unhide HI).2
        rw [List.drop_length] at this
        exact this.symm
      rw [hr]
      go_wp2
      go_ret
      exact ⟨rfl, rfl⟩

theorem lcontains_any (w : World) (ro : Option Addr) (rc : Nat) (rs : List (List UInt8)) (h : RowsAt w ro rs) :
    Calls Tryz.prog 71 #[.slice ro rs.length rc, .func (.func 70) #[] #[]] w fun e w' => e = .returned (.bool (rs.any longB)) ∧ w' = w := by
  have R := hide (lindex_any w ro rc rs h)
  have e := ixL_any rs 0
  generalize ixL rs 0 = z at *
  generalize rs.any longB = r at *
  have e2 : decide (z ≥ 0) = r := e
  clear h
  go_enter Tryz.func71, Tryz.ntmps71
  go_wp2_with fail
  refine (unhide R).mono ?_
  rintro e w1 ⟨rfl, rfl⟩
  go_wp2
  go_ret
  exact ⟨rfl, rfl⟩

set_option maxHeartbeats 1000000 in
set_option maxRecDepth 20000 in
theorem isbare_any (w : World) (f : Fm) (io : Option Addr) (ic : Nat) (bo : Option Addr) (bc : Nat) :
    Calls Tryz.prog 47 #[.agg (f.cells io ic bo bc)] w fun e w' => e = .returned (.bool f.bare) ∧ Hid (Fr (fun _ => False) w w') := by
  obtain ⟨kd, ba, sq, its, bts⟩ := f
  simp only [Fm.cells, Fm.bare]
  generalize its.length = n at *
  generalize bts.length = m at *
  have hF : Hid (Fr (fun _ => False) w (w.alloc (.cells #[.int .i64 kd, .int .i64 ba, .int .i64 sq, .slice io n ic, .slice bo m bc] 25))) := hide ((Fr.refl _ _).alloc _)
  by_cases h1 : ba = 0
  · by_cases h2 : n = 0
    · by_cases h3 : m = 0
      · subst h1 h2 h3
        go_enter Tryz.func47, Tryz.ntmps47
        go_wp2
        go_ret
        exact ⟨rfl, hF⟩
      · have e : decide (ba = 0 ∧ n = 0 ∧ m = 0) = false := by simp; omega
        rw [e]
        subst h1 h2
        have e2 : ((m : Int) == 0) = false := by simp; omega
        clear e
        go_enter Tryz.func47, Tryz.ntmps47
        go_wp2
        go_ret
        exact ⟨rfl, hF⟩
    · have e : decide (ba = 0 ∧ n = 0 ∧ m = 0) = false := by simp; omega
      rw [e]
      subst h1
      have e2 : ((n : Int) == 0) = false := by simp; omega
      clear e
      go_enter Tryz.func47, Tryz.ntmps47
      go_wp2
      go_ret
      exact ⟨rfl, hF⟩
  · have e : decide (ba = 0 ∧ n = 0 ∧ m = 0) = false := by simp; omega
    rw [e]
    have e2 : (ba == 0) = false := by simp; omega
    clear e
    go_enter Tryz.func47, Tryz.ntmps47
    go_wp2
    go_ret
    exact ⟨rfl, hF⟩

end Go.Proofs.YtabhfeocelljdaaGreatDoor

/- Which frames may be: itemsMayBe, mayBe. -/
namespace Go.Proofs.YtabhfeocelljdaaGreatDoor
open Go.RowKit

theorem Fm.mayItems_eq (f : Fm) (r : Bool) (hr : f.items.any longB = r) : f.mayItems = (decide ((1 ≤ f.items.length ∧ f.items.length ≤ 8) ∧ (1 ≤ f.base ∧ f.base ≤ f.seq) ∧ f.seq ≤ 4294967296 - (f.items.length : Int)) && !r) := by
  unfold Fm.mayItems
  rw [hr]

set_option maxHeartbeats 2000000 in
set_option maxRecDepth 20000 in
theorem itemsmay_any (w : World) (f : Fm) (io : Option Addr) (ic : Nat) (bo : Option Addr) (bc : Nat) (hI : RowsAt w io f.items) :
    Calls Tryz.prog 46 #[.agg (f.cells io ic bo bc)] w fun e w' => e = .returned (.bool f.mayItems) ∧ Hid (Fr (fun _ => False) w w') := by
  have hs := hI.small
  obtain ⟨r, hr⟩ : ∃ r, f.items.any longB = r := ⟨_, rfl⟩
  rw [f.mayItems_eq r hr]
  obtain ⟨kd, ba, sq, its, bts⟩ := f
  simp only [Fm.cells] at *
  have hF : Fr (fun _ => False) w (w.alloc (.cells #[.int .i64 kd, .int .i64 ba, .int .i64 sq, .slice io its.length ic, .slice bo bts.length bc] 25)) := (Fr.refl _ _).alloc _
  have hb := Bx.new w #[.int .i64 kd, .int .i64 ba, .int .i64 sq, .slice io its.length ic, .slice bo bts.length bc] 25
  have C := lcontains_any _ io ic its (hI.later hF)
  have hr' : its.any longB = r := hr
  rw [hr'] at C
  have HC := hide C
  have HF := hide hF
  have c1 : (w.alloc (.cells #[.int .i64 kd, .int .i64 ba, .int .i64 sq, .slice io its.length ic, .slice bo bts.length bc] 25)).cell? ⟨w.heap.size, 1, none⟩ = some (.int .i64 ba) := hb.cell 1
  have c2 : (w.alloc (.cells #[.int .i64 kd, .int .i64 ba, .int .i64 sq, .slice io its.length ic, .slice bo bts.length bc] 25)).cell? ⟨w.heap.size, 2, none⟩ = some (.int .i64 sq) := hb.cell 2
  have c3 : (w.alloc (.cells #[.int .i64 kd, .int .i64 ba, .int .i64 sq, .slice io its.length ic, .slice bo bts.length bc] 25)).cell? ⟨w.heap.size, 3, none⟩ = some (.slice io its.length ic) := hb.cell 3
  have HW := hide (fun (u : World) (a b c : Int) => within_any u a b c)
  clear C hF hI hr hr' hb
  generalize bts.length = bl at *
  generalize its.length = n at *
  have hnI : (n : Int) ≤ 140737488355328 := by omega
  clear hs
  obtain ⟨z, hz⟩ : ∃ z, decide ((1 ≤ n ∧ n ≤ 8) ∧ (1 ≤ ba ∧ ba ≤ sq) ∧ sq ≤ 4294967296 - (n : Int)) = z := ⟨_, rfl⟩
  rw [hz]
  have HZ := hide hz
  clear hz
  go_enter Tryz.func46, Tryz.ntmps46
  go_upto_region 1 with (fail)
  generalize w.alloc (.cells #[.int .i64 kd, .int .i64 ba, .int .i64 sq, .slice io n ic, .slice bo bl bc] 25) = v at *
  generalize w.heap.size = g at *
  go_wp2_with fail
  refine (unhide HW v (n : Int) 1 8).mono ?_
  rintro e v1 ⟨rfl, rfl⟩
  by_cases h1 : 1 ≤ n ∧ n ≤ 8
  · rw [decide_eq_true (show (1 : Int) ≤ (n : Int) ∧ (n : Int) ≤ 8 by omega)]
    go_wp2_with fail
    refine (unhide HW v1 ba 1 sq).mono ?_
    rintro e v2 ⟨rfl, rfl⟩
    by_cases h2 : 1 ≤ ba ∧ ba ≤ sq
    · rw [decide_eq_true h2]
      have hw1 : IntKind.i64.wrap (4294967295 - (n : Int)) = 4294967295 - (n : Int) := by rw [IntKind.wrap_i64]; omega
      have hw2 : IntKind.i64.wrap (4294967295 - (n : Int) + 1) = 4294967296 - (n : Int) := by rw [IntKind.wrap_i64]; omega
      have hw3 : wrap64 (4294967295 - (n : Int)) = 4294967295 - (n : Int) := by unfold wrap64; omega
      have hw4 : wrap64 (4294967295 - (n : Int) + 1) = 4294967296 - (n : Int) := by unfold wrap64; omega
      by_cases h3 : sq ≤ 4294967296 - (n : Int)
      · have d3 : decide (sq ≤ 4294967296 - (n : Int)) = true := by simpa using h3
        have hz : z = true := by rw [← unhide HZ]; exact decide_eq_true ⟨h1, h2, h3⟩
        subst hz
        clear h1 h2
        go_wp2_with fail
        refine (unhide HC).mono ?_
        rintro e v3 ⟨rfl, rfl⟩
        cases r with
        | true =>
          go_wp2
          go_ret
          exact ⟨rfl, HF⟩
        | false =>
          go_wp2
          go_ret
          exact ⟨rfl, HF⟩
      · have d3 : decide (sq ≤ 4294967296 - (n : Int)) = false := by simpa using h3
        have hz : z = false := by rw [← unhide HZ]; exact decide_eq_false (fun t => h3 t.2.2)
        subst hz
        clear h1 h2 HC
        go_wp2
        go_ret
        exact ⟨rfl, HF⟩
    · rw [decide_eq_false h2]
      have hz : z = false := by rw [← unhide HZ]; exact decide_eq_false (fun t => h2 t.2.1)
      subst hz
      clear h1 HC
      go_wp2
      go_ret
      exact ⟨rfl, HF⟩
  · rw [decide_eq_false (show ¬ ((1 : Int) ≤ (n : Int) ∧ (n : Int) ≤ 8) by omega)]
    have hz : z = false := by rw [← unhide HZ]; exact decide_eq_false (fun t => h1 t.1)
    subst hz
    clear HC
    go_wp2
    go_ret
    exact ⟨rfl, HF⟩

set_option maxHeartbeats 2000000 in
set_option maxRecDepth 20000 in
theorem maybe_any (w : World) (f : Fm) (io : Option Addr) (ic : Nat) (bo : Option Addr) (bc : Nat) (hI : RowsAt w io f.items) :
    Calls Tryz.prog 24 #[.agg (f.cells io ic bo bc)] w fun e w' => e = .returned (.bool f.may) ∧ Hid (Fr (fun _ => False) w w') := by
  have hF : Fr (fun _ => False) w (w.alloc (.cells (f.cells io ic bo bc) 25)) := (Fr.refl _ _).alloc _
  have hb := Bx.new w (f.cells io ic bo bc) 25
  have IM : Hid (Calls Tryz.prog 46 #[.agg (f.cells io ic bo bc)] (w.alloc (.cells (f.cells io ic bo bc) 25)) fun e w' => e = .returned (.bool f.mayItems) ∧ Hid (Fr (fun _ => False) w w')) := hide ((itemsmay_any _ f io ic bo bc (hI.later hF)).mono (fun e w' t => ⟨t.1, hide (hF.trans (unhide t.2) (fun _ _ t => t))⟩))
  have IB : Hid (Calls Tryz.prog 47 #[.agg (f.cells io ic bo bc)] (w.alloc (.cells (f.cells io ic bo bc) 25)) fun e w' => e = .returned (.bool f.bare) ∧ Hid (Fr (fun _ => False) (w.alloc (.cells (f.cells io ic bo bc) 25)) w')) := hide (isbare_any _ f io ic bo bc)
  have HW := hide (fun (u : World) (a b c : Int) => within_any u a b c)
  have HF := hide hF
  have HB := hide hb
  clear hF hb hI
  obtain ⟨may, hmay⟩ : ∃ r, f.may = r := ⟨_, rfl⟩
  rw [hmay]
  obtain ⟨mi, hmi⟩ : ∃ r, f.mayItems = r := ⟨_, rfl⟩
  obtain ⟨ib, hib⟩ : ∃ r, f.bare = r := ⟨_, rfl⟩
  rw [hmi] at IM
  rw [hib] at IB
  unfold Fm.may at hmay
  rw [hmi, hib] at hmay
  clear hmi hib
  obtain ⟨kd, ba, sq, its, bts⟩ := f
  simp only [Fm.cells] at *
  generalize bts.length = m at *
  generalize its.length = n at *
  go_enter Tryz.func24, Tryz.ntmps24
  go_upto_region 1 with (fail)
  generalize w.alloc (.cells #[.int .i64 kd, .int .i64 ba, .int .i64 sq, .slice io n ic, .slice bo m bc] 25) = v at *
  generalize w.heap.size = g at *
  have c0 : v.cell? ⟨g, 0, none⟩ = some (.int .i64 kd) := (unhide HB).cell 0
  have c1 : v.cell? ⟨g, 1, none⟩ = some (.int .i64 ba) := (unhide HB).cell 1
  have c2 : v.cell? ⟨g, 2, none⟩ = some (.int .i64 sq) := (unhide HB).cell 2
  have c3 : v.cell? ⟨g, 3, none⟩ = some (.slice io n ic) := (unhide HB).cell 3
  have c4 : v.cell? ⟨g, 4, none⟩ = some (.slice bo m bc) := (unhide HB).cell 4
  by_cases k1 : kd = 1
  · rw [if_pos k1] at hmay
    subst k1
    by_cases hm : m = 0
    · subst hm
      go_wp2_with fail
      refine (unhide IM).mono ?_
      rintro e v1 ⟨rfl, hF1⟩
      have e1 : may = mi := by rw [← hmay]; simp
      subst e1
      clear hmay
      go_wp2
      go_ret
      exact ⟨rfl, hF1⟩
    · have d : ((m : Int) == 0) = false := by simp; omega
      have e1 : may = false := by rw [← hmay]; simp [hm]
      subst e1
      clear hmay IM
      go_wp2
      go_ret
      exact ⟨rfl, HF⟩
  · rw [if_neg k1] at hmay
    have k1b : (kd == 1) = false := by simpa using k1
    by_cases k2 : kd = 2
    · rw [if_pos k2] at hmay
      subst k2
      go_wp2_with fail
      refine (unhide IB).mono ?_
      rintro e v1 ⟨rfl, hF1⟩
      have HF1 := hide ((unhide HF).trans (unhide hF1) (fun _ _ t => t))
      have c2' : v1.cell? ⟨g, 2, none⟩ = some (.int .i64 sq) := ((unhide HB).keep (unhide hF1)).cell 2
      clear c0 c1 c2 c3 c4
      cases ib with
      | false =>
        have e1 : may = false := by rw [← hmay]; simp
        subst e1
        clear hmay
        go_wp2
        go_ret
        exact ⟨rfl, HF1⟩
      | true =>
        go_wp2_with fail
        refine (unhide HW v1 sq 0 4294967295).mono ?_
        rintro e v2 ⟨he, rfl⟩
        rw [show decide (0 ≤ sq ∧ sq ≤ 4294967295) = may from by rw [← hmay]; simp] at he
        subst he
        clear hmay
        go_wp2
        go_ret
        exact ⟨rfl, HF1⟩
    · rw [if_neg k2] at hmay
      have k2b : (kd == 2) = false := by simpa using k2
      by_cases k3 : kd = 3
      · rw [if_pos k3] at hmay
        subst k3
        go_wp2_with fail
        refine (unhide IB).mono ?_
        rintro e v1 ⟨rfl, hF1⟩
        have HF1 := hide ((unhide HF).trans (unhide hF1) (fun _ _ t => t))
        have c2' : v1.cell? ⟨g, 2, none⟩ = some (.int .i64 sq) := ((unhide HB).keep (unhide hF1)).cell 2
        clear c0 c1 c2 c3 c4
        cases ib with
        | false =>
          have e1 : may = false := by rw [← hmay]; simp
          subst e1
          clear hmay
          go_wp2
          go_ret
          exact ⟨rfl, HF1⟩
        | true =>
          go_wp2_with fail
          refine (unhide HW v1 sq 0 2147483648).mono ?_
          rintro e v2 ⟨he, rfl⟩
          rw [show decide (0 ≤ sq ∧ sq ≤ 2147483648) = may from by rw [← hmay]; simp] at he
          subst he
          clear hmay
          go_wp2
          go_ret
          exact ⟨rfl, HF1⟩
      · rw [if_neg k3] at hmay
        have k3b : (kd == 3) = false := by simpa using k3
        clear IM IB HW
        by_cases k4 : kd = 4
        · rw [if_pos k4] at hmay
          subst k4
          by_cases hb0 : ba = 0
          · by_cases hs0 : sq = 0
            · by_cases hn0 : n = 0
              · have e1 : may = decide (m ≤ 16100) := by rw [← hmay]; simp [hb0, hs0, hn0]
                subst hb0 hs0 hn0
                have e2 : decide ((m : Int) ≤ 16100) = may := by rw [e1]; exact decide_eq_decide.2 (by omega)
                clear hmay e1
                go_wp2
                go_ret
                exact ⟨rfl, HF⟩
              · have e1 : may = false := by rw [← hmay]; simp [hn0]
                have d : ((n : Int) == 0) = false := by simp; omega
                subst e1 hb0 hs0
                clear hmay
                go_wp2
                go_ret
                exact ⟨rfl, HF⟩
            · have e1 : may = false := by rw [← hmay]; simp [hs0]
              have d : (sq == 0) = false := by simpa using hs0
              subst e1 hb0
              clear hmay
              go_wp2
              go_ret
              exact ⟨rfl, HF⟩
          · have e1 : may = false := by rw [← hmay]; simp [hb0]
            have d : (ba == 0) = false := by simpa using hb0
            subst e1
            clear hmay
            go_wp2
            go_ret
            exact ⟨rfl, HF⟩
        · rw [if_neg k4] at hmay
          have k4b : (kd == 4) = false := by simpa using k4
          subst hmay
          go_wp2
          go_ret
          exact ⟨rfl, HF⟩

end Go.Proofs.YtabhfeocelljdaaGreatDoor

/- Contract: bytesOf, the bytes of a frame that may be. -/
namespace Go.Proofs.YtabhfeocelljdaaGreatDoor
open Go.RowKit

theorem wputZ (a : List UInt8) (n k : Nat) (hk : 1 ≤ k) (hk8 : k ≤ 8) (h : n < 256 ^ k) : stepW (some a) (wNumber (n : Int) (k : Int)) = some (a ++ digs n k) := by
  have e : wNumber (n : Int) (k : Int) = some (digs n k) := by
    unfold wNumber
    have hp : (n : Int) < 256 ^ ((k : Int).toNat) := by
      rw [Int.toNat_natCast]
      have e : ((256 ^ k : Nat) : Int) = (256 : Int) ^ k := Int.natCast_pow 256 k
      rw [← e]
      exact Int.ofNat_lt.2 h
    rw [if_pos ⟨by omega, by omega, by omega, hp⟩, Int.toNat_natCast, Int.toNat_natCast]
  rw [e]; rfl
theorem wtextZ (a : List UInt8) (b : List UInt8) (h : b.length ≤ 65535) : stepW (some a) (wText ⟨b.toArray⟩) = some (a ++ (digs b.length 2 ++ b)) := by
  have e : wText ⟨b.toArray⟩ = some (digs b.length 2 ++ b) := by
    unfold wText
    rw [if_pos (by simpa [ByteArray.size] using h)]
    simp [ByteArray.size]
  rw [e]; rfl
theorem wcountZ (a : List UInt8) (n : Nat) (h : n ≤ 65535) : stepW (some a) (wCount (n : Int)) = some (a ++ digs n 2) := by
  have e : wCount (n : Int) = some (digs n 2) := by
    unfold wCount
    rw [if_pos ⟨by omega, by omega⟩, Int.toNat_natCast]
  rw [e]; rfl

/-- Texts, one behind the other. -/
def textsF (l : List (List UInt8)) : List UInt8 := l.flatMap fun b => digs b.length 2 ++ b
theorem textsF_snoc (l : List (List UInt8)) (i : Nat) (h : i < l.length) : textsF (l.take (i + 1)) = textsF (l.take i) ++ (digs l[i].length 2 ++ l[i]) := by
  rw [List.take_succ_eq_append_getElem h, textsF, List.flatMap_append]; simp only [List.flatMap_cons, List.flatMap_nil, List.append_nil]; rfl
theorem textsF_small (l : List (List UInt8)) (h : ∀ b ∈ l, b.length ≤ 256) : (textsF l).length ≤ 258 * l.length := by
  induction l with
  | nil => simp [textsF]
  | cons b r ih =>
    have h1 := h b (by simp)
    have h2 := ih (fun x hx => h x (by simp [hx]))
    simp [textsF, digs_length] at *
    omega

/-- A frame's bytes. -/
def Fm.raw (f : Fm) : List UInt8 :=
  digs f.kind.toNat 1 ++ (if f.kind = 1 then digs f.base.toNat 8 ++ (digs f.seq.toNat 8 ++ (digs f.items.length 2 ++ textsF f.items)) else if f.kind = 4 then digs f.bytes.length 2 ++ f.bytes else digs f.seq.toNat 8)

/-- What may be is small. -/
theorem Fm.may_one {f : Fm} (h : f.may = true) (hk : f.kind = 1) : f.bytes.length = 0 ∧ 1 ≤ f.items.length ∧ f.items.length ≤ 8 ∧ 1 ≤ f.base ∧ f.base ≤ f.seq ∧ f.seq ≤ 4294967296 - (f.items.length : Int) ∧ ∀ b ∈ f.items, b.length ≤ 256 := by
  unfold Fm.may at h
  rw [if_pos hk] at h
  unfold Fm.mayItems at h
  simp only [Bool.and_eq_true, decide_eq_true_eq, Bool.not_eq_true', List.any_eq_false] at h
  obtain ⟨h1, ⟨⟨h2, h3⟩, ⟨h4, h5⟩, h6⟩, h7⟩ := h
  refine ⟨h1, h2, h3, h4, h5, h6, fun b hb => ?_⟩
  have := h7 b hb
  unfold longB at this
  simpa using this
theorem Fm.may_two {f : Fm} (h : f.may = true) (hk : f.kind = 2 ∨ f.kind = 3) : f.base = 0 ∧ f.items.length = 0 ∧ f.bytes.length = 0 ∧ 0 ≤ f.seq ∧ f.seq ≤ 4294967295 := by
  unfold Fm.may at h
  rw [if_neg (by omega)] at h
  unfold Fm.bare at h
  by_cases k2 : f.kind = 2
  · rw [if_pos k2] at h
    simp only [Bool.and_eq_true, decide_eq_true_eq] at h
    omega
  · rw [if_neg k2, if_pos (by omega)] at h
    simp only [Bool.and_eq_true, decide_eq_true_eq] at h
    omega
theorem Fm.may_four {f : Fm} (h : f.may = true) (hk : f.kind = 4) : f.base = 0 ∧ f.seq = 0 ∧ f.items.length = 0 ∧ f.bytes.length ≤ 16100 := by
  unfold Fm.may at h
  rw [if_neg (by omega), if_neg (by omega), if_neg (by omega), if_pos hk] at h
  simpa using h
theorem Fm.may_kind {f : Fm} (h : f.may = true) : f.kind = 1 ∨ (f.kind = 2 ∨ f.kind = 3) ∨ f.kind = 4 := by
  unfold Fm.may at h
  by_cases k1 : f.kind = 1
  · exact .inl k1
  · rw [if_neg k1] at h
    by_cases k2 : f.kind = 2
    · exact .inr (.inl (.inl k2))
    · rw [if_neg k2] at h
      by_cases k3 : f.kind = 3
      · exact .inr (.inl (.inr k3))
      · rw [if_neg k3] at h
        by_cases k4 : f.kind = 4
        · exact .inr (.inr k4)
        · rw [if_neg k4] at h; cases h
theorem Fm.raw_small {f : Fm} (h : f.may = true) : f.raw.length ≤ 20000 := by
  unfold Fm.raw
  rw [List.length_append, digs_length]
  rcases f.may_kind h with k | k | k
  · have := Fm.may_one h k
    have hs := textsF_small f.items this.2.2.2.2.2.2
    rw [if_pos k]
    simp only [List.length_append, digs_length]
    omega
  · rw [if_neg (by omega), if_neg (by omega), digs_length]; omega
  · have := Fm.may_four h k
    rw [if_neg (by omega), if_pos k, List.length_append, digs_length]; omega

theorem conv_batL {w : World} {ao : Option Addr} {cap : Nat} {bs : List UInt8} (h : BAt w ao cap bs) : (convert 23 9 (.slice ao bs.length cap)).run Tryz.prog w = .ok (.string ⟨bs.toArray⟩) w := by
  by_cases hk : 0 < bs.length
  · obtain ⟨b, off, e, hc⟩ := h.2.1 hk
    rw [e]
    refine run_convert_bytes_back (P := Tryz.prog) w 23 9 5 ⟨b, off, none⟩ cap bs Tryz.underlying23 Tryz.underlying5 Tryz.underlying9 (fun j hj => ?_)
    rw [show (⟨b, off, none⟩ : Addr).add j = ⟨b, off + j, none⟩ from Addr.add_lit ..]
    exact hc j hj
  · obtain rfl : bs = [] := List.eq_nil_of_length_eq_zero (by omega)
    cases ao with
    | none =>
      rw [show ([] : List UInt8).length = 0 from rfl, run_convert_bytes_nil w 23 5 Tryz.underlying23 Tryz.underlying5 0 cap 9 Tryz.underlying9]
      rfl
    | some x => exact run_convert_bytes_back (P := Tryz.prog) w 23 9 5 x cap [] Tryz.underlying23 Tryz.underlying5 Tryz.underlying9 (fun j hj => by simp at hj)

set_option maxHeartbeats 2000000 in
set_option maxRecDepth 20000 in
theorem bytesof_any (w : World) (f : Fm) (io : Option Addr) (ic : Nat) (bo : Option Addr) (bc : Nat) (hA : f.At w io bo bc) (hm : f.may = true) :
    Calls Tryz.prog 26 #[.agg (f.cells io ic bo bc)] w fun e w' => ∃ v g, e = .returned v ∧ Hid (Row w' v g f.raw ∧ Fr (fun _ => False) w w' ∧ w.heap.size ≤ g) := by
  have hF0 : Fr (fun _ => False) w (w.alloc (.cells (f.cells io ic bo bc) 25)) := (Fr.refl _ _).alloc _
  have hbx := Bx.new w (f.cells io ic bo bc) 25
  have hrs := Fm.raw_small hm
  have HH := hide (And.intro hA (And.intro hm (And.intro hF0 (And.intro hbx hrs))))
  obtain ⟨Z, hZ⟩ : ∃ Z, f.raw = Z := ⟨_, rfl⟩
  rw [hZ]
  have HZ := hide hZ
  have hsm := hA.items.small
  have hbl := hA.bytes.2.2
  have hkd := f.may_kind hm
  clear hA hm hF0 hbx hrs hZ
  obtain ⟨kd, ba, sq, its, bts⟩ := f
  simp only [Fm.cells] at *
  have hnI : (its.length : Int) ≤ 140737488355328 := by omega
  have hmI : (bts.length : Int) ≤ 140737488355328 := by omega
  obtain ⟨k, hk⟩ : ∃ k : Nat, kd = (k : Int) := ⟨kd.toNat, by omega⟩
  subst hk
  have hk4 : k ≤ 4 := by omega
  have HK : Hid (stepW (some []) (wNumber (k : Int) 1) = some ([] ++ digs k 1)) := hide (wputZ [] k 1 (by omega) (by omega) (by omega))
  have hkI : (k : Int) ≤ 9223372036854775807 := by omega
  go_enter Tryz.func26, Tryz.ntmps26
  go_upto_region 1 with (fail)
  obtain ⟨hA, hm, hF0, hbx, hrs⟩ := unhide HH
  have HB := hide hbx
  have HF := hide hF0
  have HA := hide hA
  have HM := hide (And.intro hm hrs)
  clear HH hA hm hF0 hbx hrs
  generalize w.alloc (.cells #[.int .i64 (k : Int), .int .i64 ba, .int .i64 sq, .slice io its.length ic, .slice bo bts.length bc] 25) = w0 at *
  obtain ⟨q, hq⟩ : ∃ q, q = w.heap.size := ⟨_, rfl⟩
  rw [← hq] at HB ⊢
  have HQ := hide hq
  clear hq
  go_wp2_with fail
  refine (newwriter_any _).mono ?_
  rintro e w1 ⟨rfl, rfl⟩
  have hO := WOwn.new w0
  generalize w0.alloc (.cells #[.slice none 0 0, .bool false] 106) = w1 at *
  generalize w0.heap.size = p at *
  have HO := hide hO
  clear hO
  have c0 : w1.cell? ⟨q, 0, none⟩ = some (.int .i64 (k : Int)) := ((unhide HB).keep (unhide HO).1).cell 0
  go_wp2_with fail
  refine (wnumber_any (unhide HO).2.2.2 (fun bs h => by cases h; simp) (k : Int) 1 hkI).mono ?_
  rintro e w2 ⟨rfl, hP⟩
  rw [unhide HK, List.nil_append] at hP
  obtain ⟨g2, hO2⟩ := (unhide HO).next hP
  have HO2 := hide hO2
  clear hP hO2 HO c0
  have c0 : w2.cell? ⟨q, 0, none⟩ = some (.int .i64 (k : Int)) := ((unhide HB).keep (unhide HO2).1).cell 0
  rcases hkd with k1 | k2 | k4
  · obtain ⟨m1, m2, m3, m4, m5, m6, m7⟩ := Fm.may_one (unhide HM).1 k1
    have m2 : 1 ≤ its.length := m2
    have m3 : its.length ≤ 8 := m3
    have m4 : 1 ≤ ba := m4
    have m5 : ba ≤ sq := m5
    have m6 : sq ≤ 4294967296 - (its.length : Int) := m6
    have m7 : ∀ b ∈ its, b.length ≤ 256 := m7
    have hk1 : k = 1 := by have k1 : (k : Int) = 1 := k1; omega
    obtain ⟨b, hb⟩ : ∃ b : Nat, ba = (b : Int) := ⟨ba.toNat, by omega⟩
    obtain ⟨s, hs⟩ : ∃ s : Nat, sq = (s : Int) := ⟨sq.toNat, by omega⟩
    subst hb hs hk1
    have HE0 : Hid (((digs 1 1 ++ digs b 8) ++ digs s 8) ++ digs its.length 2 ++ textsF its = Z) := by
      have h := unhide HZ
      unfold Fm.raw at h
      rw [if_pos k1] at h
      have h : digs (1 : Int).toNat 1 ++ (digs ((b : Int)).toNat 8 ++ (digs ((s : Int)).toNat 8 ++ (digs its.length 2 ++ textsF its))) = Z := h
      rw [Int.toNat_natCast, Int.toNat_natCast] at h
      refine hide ?_
      rw [← h]
      simp only [List.append_assoc]
      rfl
    have H1 := hide (wputZ (digs 1 1) b 8 (by omega) (by omega) (by omega))
    have H2 := hide (wputZ (digs 1 1 ++ digs b 8) s 8 (by omega) (by omega) (by omega))
    have H3 := hide (wcountZ ((digs 1 1 ++ digs b 8) ++ digs s 8) its.length (by omega))
    have HL : Hid ((digs 1 1).length = 1 ∧ (digs 1 1 ++ digs b 8).length = 9 ∧ ((digs 1 1 ++ digs b 8) ++ digs s 8).length = 17 ∧ (((digs 1 1 ++ digs b 8) ++ digs s 8) ++ digs its.length 2).length = 19) := hide (by simp [digs_length])
    have H7 := hide (And.intro m7 m3)
    have hbI : (b : Int) ≤ 9223372036854775807 := by omega
    have hsI : (s : Int) ≤ 9223372036854775807 := by omega
    have hn8 : (its.length : Int) ≤ 8 := by omega
    clear m1 m2 m3 m4 m5 m6 m7 k1 HK hkI hk4
    generalize digs 1 1 ++ digs b 8 = A2 at *
    generalize hA1 : digs 1 1 = A1 at *
    have HA1 := hide hA1
    clear hA1
    generalize A2 ++ digs s 8 = A3 at *
    generalize A3 ++ digs its.length 2 = A4 at *
    have c1 : w2.cell? ⟨q, 1, none⟩ = some (.int .i64 (b : Int)) := ((unhide HB).keep (unhide HO2).1).cell 1
    go_wp2_with fail
    refine (wnumber_any (unhide HO2).2.2.2 (fun bs h => by cases h; have := (unhide HL).1; omega) (b : Int) 8 hbI).mono ?_
    rintro e w3 ⟨rfl, hP⟩
    have hP' : WPuts p g2 (some A2) w2 w3 := by have h := hP; rw [show ((8 : Int)) = ((8 : Nat) : Int) from rfl, unhide H1] at h; exact h
    obtain ⟨g3, hO3⟩ := (unhide HO2).next hP'
    have HO3 := hide hO3
    clear hP hP' hO3 HO2 c0 c1
    have c2 : w3.cell? ⟨q, 2, none⟩ = some (.int .i64 (s : Int)) := ((unhide HB).keep (unhide HO3).1).cell 2
    go_wp2_with fail
    refine (wnumber_any (unhide HO3).2.2.2 (fun bs h => by cases h; have := (unhide HL).2.1; omega) (s : Int) 8 hsI).mono ?_
    rintro e w4 ⟨rfl, hP⟩
    have hP' : WPuts p g3 (some A3) w3 w4 := by have h := hP; rw [show ((8 : Int)) = ((8 : Nat) : Int) from rfl, unhide H2] at h; exact h
    obtain ⟨g4, hO4⟩ := (unhide HO3).next hP'
    have HO4 := hide hO4
    clear hP hP' hO4 HO3 c2
    have c3 : w4.cell? ⟨q, 3, none⟩ = some (.slice io its.length ic) := ((unhide HB).keep (unhide HO4).1).cell 3
    go_wp2_with fail
    refine (wcount_any (unhide HO4).2.2.2 (fun bs h => by cases h; have := (unhide HL).2.2.1; omega) (its.length : Int)).mono ?_
    rintro e w5 ⟨rfl, hP⟩
    rw [unhide H3] at hP
    obtain ⟨g5, hO5⟩ := (unhide HO4).next hP
    have HO5 := hide hO5
    clear hP hO5 HO4 c3
    have c3 : w5.cell? ⟨q, 3, none⟩ = some (.slice io its.length ic) := ((unhide HB).keep (unhide HO5).1).cell 3
    go_wp2
    clear c3
    go_loopw [5, 33] (fun _ iv wr => ∃ i : Nat, i ≤ its.length ∧ iv = .int .i64 i ∧ Hid (∃ g, WOwn w0 wr p g (some (A4 ++ textsF (its.take i))))) (fun _ iv _ => its.length - (intOf iv).toNat)
    case atStart => exact ⟨0, Nat.zero_le _, rfl, hide ⟨g5, by simpa [textsF] using unhide HO5⟩⟩
    case round =>
      obtain ⟨i, hi, rfl, HI⟩ := hrel
      clear HO5
      by_cases hil : i < its.length
      · have hiI : (i : Int) < (its.length : Int) := by omega
        obtain ⟨gi, hOi⟩ := unhide HI
        have HOi := hide hOi
        obtain ⟨rb, off, e, hc⟩ := ((unhide HA).items.later ((unhide HF).trans hOi.1 (fun _ _ t => t))).cells (show 0 < its.length by omega)
        obtain ⟨xo, xc, c1, c2⟩ := hc i hil
        subst e
        have kv := conv_batL c2
        have hx256 := (unhide H7).1 _ (List.getElem_mem hil)
        have hlt : (textsF (its.take i)).length ≤ 258 * 8 := by
          have h := textsF_small (its.take i) (fun b hb => (unhide H7).1 b (List.mem_of_mem_take hb))
          have := (unhide H7).2
          rw [List.length_take] at h
          omega
        have HT : Hid (stepW (some (A4 ++ textsF (its.take i))) (wText ⟨(its[i]).toArray⟩) = some (A4 ++ textsF (its.take (i + 1)))) := hide (by rw [wtextZ _ _ (by omega), textsF_snoc its i hil, List.append_assoc])
        have HL2 : Hid ((A4 ++ textsF (its.take i)).length + 2 + (its[i]).length ≤ 140737488355328) := hide (by rw [List.length_append, (unhide HL).2.2.2]; omega)
        have hxl : ((its[i]).length : Int) ≤ 256 := by omega
        clear hOi hc c2 hx256 hlt HI
        generalize its[i] = x at *
        go_wp2_with fail
        refine (wtext_any (unhide HOi).2.2.2 ⟨x.toArray⟩ (fun bs h _ => by cases h; have := unhide HL2; simpa [ByteArray.size] using this)).mono ?_
        rintro e w6 ⟨rfl, hP⟩
        rw [unhide HT] at hP
        obtain ⟨g6, hO6⟩ := (unhide HOi).next hP
        have HO6 := hide hO6
        clear hP hO6 HOi kv
        go_wp2
        exact ⟨⟨i + 1, by omega, by go_num, hide ⟨g6, unhide HO6⟩⟩, by simp [intOf]; omega⟩
      · obtain rfl : i = its.length := by omega
        obtain ⟨gi, hOi⟩ := unhide HI
        rw [List.take_length, unhide HE0] at hOi
        have HOi := hide hOi
        clear hOi HI
        go_wp2_with fail
        refine (bytes_ok (unhide HOi).2.2.2 (by have := (unhide HM).2; rw [unhide HZ] at this; omega)).mono ?_
        rintro e w9 ⟨v, g9, rfl, hrow, hF9, hg9⟩
        have HR : Hid (Row w9 v g9 Z ∧ Fr (fun _ => False) w w9 ∧ w.heap.size ≤ g9) := by
          have hf := (unhide HF).trans (unhide HOi).1 (fun _ _ t => t)
          exact hide ⟨hrow, hf.trans hF9 (fun _ _ t => t), Nat.le_trans hf.size hg9⟩
        obtain ⟨vo, vc, rfl, hjk⟩ := hrow.shape
        clear hrow hF9 hg9 hjk
        go_wp2
        go_ret
        exact ⟨_, g9, rfl, HR⟩
  · obtain ⟨m1, m2, m3, m4, m5⟩ := Fm.may_two (unhide HM).1 k2
    have m4 : 0 ≤ sq := m4
    have m5 : sq ≤ 4294967295 := m5
    have k2 : (k : Int) = 2 ∨ (k : Int) = 3 := k2
    obtain ⟨s, hs⟩ : ∃ s : Nat, sq = (s : Int) := ⟨sq.toNat, by omega⟩
    subst hs
    have HE : Hid (digs k 1 ++ digs s 8 = Z) := by
      have h := unhide HZ
      unfold Fm.raw at h
      rw [if_neg (by show ¬ (k : Int) = 1; omega), if_neg (by show ¬ (k : Int) = 4; omega)] at h
      have h : digs ((k : Int)).toNat 1 ++ digs ((s : Int)).toNat 8 = Z := h
      rw [Int.toNat_natCast, Int.toNat_natCast] at h
      exact hide h
    have H1 := hide (wputZ (digs k 1) s 8 (by omega) (by omega) (by omega))
    have HL : Hid ((digs k 1).length = 1) := hide (digs_length k 1)
    have hsI : (s : Int) ≤ 9223372036854775807 := by omega
    clear m1 m2 m3 m4 m5 HK hk4
    have c2 : w2.cell? ⟨q, 2, none⟩ = some (.int .i64 (s : Int)) := ((unhide HB).keep (unhide HO2).1).cell 2
    generalize digs k 1 ++ digs s 8 = A2 at *
    generalize digs k 1 = A1 at *
    have hk1b : ((k : Int) == 1) = false := by simp; omega
    rcases k2 with k2 | k2
    all_goals
      rw [k2] at c0
      go_wp2_with fail
      refine (wnumber_any (unhide HO2).2.2.2 (fun bs h => by cases h; have := unhide HL; omega) (s : Int) 8 hsI).mono ?_
      rintro e w3 ⟨rfl, hP⟩
      have hP' : WPuts p g2 (some A2) w2 w3 := by have h := hP; rw [show ((8 : Int)) = ((8 : Nat) : Int) from rfl, unhide H1] at h; exact h
      obtain ⟨g3, hO3⟩ := (unhide HO2).next hP'
      have HO3 := hide hO3
      clear hP hP' hO3 HO2 c0 c2
      go_wp2_with fail
      refine (bytes_ok (unhide HO3).2.2.2 (by rw [unhide HE]; have := (unhide HM).2; rw [unhide HZ] at this; omega)).mono ?_
      rintro e w9 ⟨v, g9, rfl, hrow, hF9, hg9⟩
      have HR : Hid (Row w9 v g9 Z ∧ Fr (fun _ => False) w w9 ∧ w.heap.size ≤ g9) := by
        have hf := (unhide HF).trans (unhide HO3).1 (fun _ _ t => t)
        exact hide ⟨by rw [← unhide HE]; exact hrow, hf.trans hF9 (fun _ _ t => t), Nat.le_trans hf.size hg9⟩
      obtain ⟨vo, vc, rfl, hjk⟩ := hrow.shape
      clear hrow hF9 hg9 hjk
      go_wp2
      go_ret
      exact ⟨_, g9, rfl, HR⟩
  · obtain ⟨m1, m2, m3, m4⟩ := Fm.may_four (unhide HM).1 k4
    have m4 : bts.length ≤ 16100 := m4
    have k4 : (k : Int) = 4 := k4
    have HE : Hid (digs k 1 ++ (digs bts.length 2 ++ bts) = Z) := by
      have h := unhide HZ
      unfold Fm.raw at h
      rw [if_neg (by show ¬ (k : Int) = 1; omega), if_pos (by show (k : Int) = 4; omega)] at h
      have h : digs ((k : Int)).toNat 1 ++ (digs bts.length 2 ++ bts) = Z := h
      rw [Int.toNat_natCast] at h
      exact hide h
    have H1 := hide (wtextZ (digs k 1) bts (by omega))
    have HL : Hid ((digs k 1).length = 1 ∧ bts.length ≤ 16100) := hide ⟨digs_length k 1, m4⟩
    have kv := conv_batL ((unhide HA).bytes.later ((unhide HF).trans (unhide HO2).1 (fun _ _ t => t)))
    clear m1 m2 m3 HK hk4
    have c4 : w2.cell? ⟨q, 4, none⟩ = some (.slice bo bts.length bc) := ((unhide HB).keep (unhide HO2).1).cell 4
    generalize digs k 1 ++ (digs bts.length 2 ++ bts) = A2 at *
    generalize digs k 1 = A1 at *
    rw [k4] at c0
    go_wp2_with fail
    refine (wtext_any (unhide HO2).2.2.2 ⟨bts.toArray⟩ (fun bs h _ => by cases h; have := unhide HL; simp [ByteArray.size]; omega)).mono ?_
    rintro e w3 ⟨rfl, hP⟩
    rw [unhide H1] at hP
    obtain ⟨g3, hO3⟩ := (unhide HO2).next hP
    have HO3 := hide hO3
    clear hP hO3 HO2 c0 c4 kv
    go_wp2_with fail
    refine (bytes_ok (unhide HO3).2.2.2 (by rw [unhide HE]; have := (unhide HM).2; rw [unhide HZ] at this; omega)).mono ?_
    rintro e w9 ⟨v, g9, rfl, hrow, hF9, hg9⟩
    have HR : Hid (Row w9 v g9 Z ∧ Fr (fun _ => False) w w9 ∧ w.heap.size ≤ g9) := by
      have hf := (unhide HF).trans (unhide HO3).1 (fun _ _ t => t)
      exact hide ⟨by rw [← unhide HE]; exact hrow, hf.trans hF9 (fun _ _ t => t), Nat.le_trans hf.size hg9⟩
    obtain ⟨vo, vc, rfl, hjk⟩ := hrow.shape
    clear hrow hF9 hg9 hjk
    go_wp2
    go_ret
    exact ⟨_, g9, rfl, HR⟩

end Go.Proofs.YtabhfeocelljdaaGreatDoor

/- The reader's End. -/
namespace Go.Proofs.YtabhfeocelljdaaGreatDoor
open Go.RowKit

theorem RAt.setOther {w : World} {p g : Nat} {bs : List UInt8} {a l : Nat} {c f : Int} (h : RAt w p g bs a l c f) {b o : Nat} (hp : b ≠ p) (hg : 0 < bs.length → b ≠ g) (v : Value) : RAt (w.setCell ⟨b, o, none⟩ v) p g bs a l c f := by
  have e : ∀ b' i, b ≠ b' → (w.setCell ⟨b, o, none⟩ v).cell? ⟨b', i, none⟩ = w.cell? ⟨b', i, none⟩ := fun b' i hi => World.cell?_setCell_other _ _ _ _ (by intro h; injection h with h1 h2; exact hi h1)
  refine ⟨?_, (e _ _ hp).trans h.c1, (e _ _ hp).trans h.c2, (e _ _ hp).trans h.c3, (e _ _ hp).trans h.c4, fun i hi => by rw [World.frozen?_setCell]; exact h.fz i hi, fun j hj => (e _ _ (hg (by omega))).trans (h.row j hj), h.ne, h.le, h.small⟩
  obtain ⟨ao, cap, h0, r⟩ := h.c0
  exact ⟨ao, cap, (e _ _ hp).trans h0, r⟩

theorem RAt.rowlt {w : World} {p g : Nat} {bs : List UInt8} {a l : Nat} {c f : Int} (h : RAt w p g bs a l c f) (h0 : 0 < bs.length) : g < w.heap.size := World.block_lt_of_cell? _ _ (h.row 0 h0)

set_option maxRecDepth 20000 in
/-- End. -/
theorem end_any {w : World} {p g : Nat} {bs : List UInt8} {s : RS} (h : s.At w p g bs) :
    Calls Tryz.prog 64 #[.pointer (some ⟨p, 0, none⟩)] w fun e w' => e = .returned (.agg #[.int .i64 (endR s bs.length).c, .int .i64 (endR s bs.length).f]) ∧ (endR s bs.length).At w' p g bs ∧ Fr (· = p) w w' := by
  have H := hide h
  have hlt := h.lt
  have hle := h.le
  have c1 := h.c1
  have c3 := h.c3
  have c4 := h.c4
  have f3 := h.fz 3 (by omega)
  have f4 := h.fz 4 (by omega)
  clear h
  by_cases hc : s.c = 0
  · have hcb : (s.c != 0) = false := by simp [hc]
    by_cases ha : s.a < bs.length
    · rw [show endR s bs.length = { s with c := 13, f := s.a } by simp [endR, hc, ha]]
      have hd : decide (0 < (bs.length : Int) - (s.a : Int)) = true := by simp; omega
      clear hc
      go_enter Tryz.func64, Tryz.ntmps64
      go_wp2_with fail
      refine (failed_any p s.c _ ((unhide H).alloc _).c3).mono ?_
      rintro e w1 ⟨rfl, rfl⟩
      go_wp2_with fail
      refine (left_r (RAt.alloc (unhide H) _)).mono ?_
      rintro e w1 ⟨rfl, j, rfl⟩
      have hnp : w.heap.size ≠ p := by omega
      have hng : 0 < bs.length → w.heap.size ≠ g := fun h0 => by have := RAt.rowlt (unhide H) h0; omega
      have HR := hide ((((((RAt.alloc (unhide H) (.cells #[.int .i64 0, .int .i64 0] 64)).drewN j).setCode 13).setPlace s.a).setOther (o := 0) hnp hng (.int .i64 13)).setOther (o := 1) hnp hng (.int .i64 s.a))
      have HF := hide (((((((Fr.refl (· = p) w).alloc (.cells #[.int .i64 0, .int .i64 0] 64)).drewN j).setCell (p := ⟨p, 3, none⟩) (fun _ => rfl) (.int .i64 13)).setCell (p := ⟨p, 4, none⟩) (fun _ => rfl) (.int .i64 s.a)).setCell (p := ⟨w.heap.size, 0, none⟩) (fun t => absurd t (Nat.lt_irrefl _)) (.int .i64 13)).setCell (p := ⟨w.heap.size, 1, none⟩) (fun t => absurd t (Nat.lt_irrefl _)) (.int .i64 s.a))
      clear hng
      go_wp2
      exact bodyPost_ret (v := .agg #[.int .i64 13, .int .i64 s.a]) (by simp [results, Tryz.results64, go_sem]) rfl ⟨rfl, unhide HR, unhide HF⟩
    · rw [show endR s bs.length = s by simp [endR, ha]]
      have hd : decide (0 < (bs.length : Int) - (s.a : Int)) = false := by simp; omega
      clear hc
      go_enter Tryz.func64, Tryz.ntmps64
      go_wp2_with fail
      refine (failed_any p s.c _ ((unhide H).alloc _).c3).mono ?_
      rintro e w1 ⟨rfl, rfl⟩
      go_wp2_with fail
      refine (left_r (RAt.alloc (unhide H) _)).mono ?_
      rintro e w1 ⟨rfl, j, rfl⟩
      have hnp : w.heap.size ≠ p := by omega
      have hng : 0 < bs.length → w.heap.size ≠ g := fun h0 => by have := RAt.rowlt (unhide H) h0; omega
      have HR := hide ((((RAt.alloc (unhide H) (.cells #[.int .i64 0, .int .i64 0] 64)).drewN j).setOther (o := 0) hnp hng (.int .i64 s.c)).setOther (o := 1) hnp hng (.int .i64 s.f))
      have HF := hide (((((Fr.refl (· = p) w).alloc (.cells #[.int .i64 0, .int .i64 0] 64)).drewN j).setCell (p := ⟨w.heap.size, 0, none⟩) (fun t => absurd t (Nat.lt_irrefl _)) (.int .i64 s.c)).setCell (p := ⟨w.heap.size, 1, none⟩) (fun t => absurd t (Nat.lt_irrefl _)) (.int .i64 s.f))
      clear hng
      go_wp2
      exact bodyPost_ret (v := .agg #[.int .i64 s.c, .int .i64 s.f]) (by simp [results, Tryz.results64, go_sem]) rfl ⟨rfl, unhide HR, unhide HF⟩
  · rw [show endR s bs.length = s by simp [endR, hc]]
    have hcb : (s.c != 0) = true := by simp [hc]
    clear hc
    go_enter Tryz.func64, Tryz.ntmps64
    go_wp2_with fail
    refine (failed_any p s.c _ ((unhide H).alloc _).c3).mono ?_
    rintro e w1 ⟨rfl, rfl⟩
    have HR := hide (RAt.alloc (unhide H) (.cells #[.int .i64 s.c, .int .i64 s.f] 64))
    have HF := hide ((Fr.refl (· = p) w).alloc (.cells #[.int .i64 s.c, .int .i64 s.f] 64))
    go_wp2
    exact bodyPost_ret (v := .agg #[.int .i64 s.c, .int .i64 s.f]) (by simp [results, Tryz.results64, go_sem]) rfl ⟨rfl, unhide HR, unhide HF⟩

end Go.Proofs.YtabhfeocelljdaaGreatDoor

/- What is read of a frame's bytes. -/
namespace Go.Proofs.YtabhfeocelljdaaGreatDoor
open Go.RowKit

def strOf : Value → List UInt8 | .string b => b.data.toList | _ => []
def rNum (bs : List UInt8) (s : RS) (k : Int) : Int × RS := (intOf (stepR s (.int .i64 0) (oNumber bs s.a k)).1, (stepR s (.int .i64 0) (oNumber bs s.a k)).2)
def rCnt (bs : List UInt8) (s : RS) (k : Int) : Int × RS := (intOf (stepR s (.int .i64 0) (oCount bs s.a k)).1, (stepR s (.int .i64 0) (oCount bs s.a k)).2)
def rTxt (bs : List UInt8) (s : RS) (k : Int) : List UInt8 × RS := (strOf (stepR s (.string ⟨#[]⟩) (oText bs s.a k)).1, (stepR s (.string ⟨#[]⟩) (oText bs s.a k)).2)

theorem rNum_eq (bs : List UInt8) (s : RS) (k : Int) : stepR s (.int .i64 0) (oNumber bs s.a k) = (.int .i64 (rNum bs s k).1, (rNum bs s k).2) ∧ 0 ≤ (rNum bs s k).1 ∧ (rNum bs s k).1 ≤ 9223372036854775807 := by
  unfold rNum stepR oNumber
  by_cases hc : s.c = 0
  · rw [if_pos hc]
    split
    · rename_i v a' h
      split at h
      · cases h
      · split at h
        · cases h
        · split at h
          · cases h
          · injection h with h
            injection h with h1 h2
            subst h1
            exact ⟨rfl, by simp [intOf], by simp [intOf]; omega⟩
    · exact ⟨rfl, by simp [intOf], by simp [intOf]⟩
  · rw [if_neg hc]
    exact ⟨rfl, by simp [intOf], by simp [intOf]⟩
theorem rCnt_eq (bs : List UInt8) (s : RS) (k : Int) (hk : 0 ≤ k) : stepR s (.int .i64 0) (oCount bs s.a k) = (.int .i64 (rCnt bs s k).1, (rCnt bs s k).2) ∧ 0 ≤ (rCnt bs s k).1 ∧ (rCnt bs s k).1 ≤ k := by
  unfold rCnt stepR oCount
  by_cases hc : s.c = 0
  · rw [if_pos hc]
    split
    · rename_i v a' h
      split at h
      · cases h
      · split at h
        · cases h
        · split at h
          · cases h
          · injection h with h
            injection h with h1 h2
            subst h1
            exact ⟨rfl, by simp [intOf], by simp [intOf]; omega⟩
    · exact ⟨rfl, by simp [intOf], by simp [intOf]; omega⟩
  · rw [if_neg hc]
    exact ⟨rfl, by simp [intOf], by simp [intOf]; omega⟩
theorem rTxt_eq (bs : List UInt8) (s : RS) (k : Int) (hk : 0 ≤ k) : stepR s (.string ⟨#[]⟩) (oText bs s.a k) = (.string ⟨(rTxt bs s k).1.toArray⟩, (rTxt bs s k).2) ∧ ((rTxt bs s k).1.length : Int) ≤ k := by
  unfold rTxt stepR oText
  by_cases hc : s.c = 0
  · rw [if_pos hc]
    split
    · rename_i v a' h
      split at h
      · cases h
      · split at h
        · cases h
        · split at h
          · cases h
          · split at h
            · cases h
            · injection h with h
              injection h with h1 h2
              subst h1
              exact ⟨by simp [strOf], by simp [strOf]; omega⟩
    · exact ⟨by simp [strOf], by simp [strOf]; omega⟩
  · rw [if_neg hc]
    exact ⟨by simp [strOf], by simp [strOf]; omega⟩

/-- So many texts, one behind the other. -/
def rTxts (bs : List UInt8) (k : Int) (s : RS) : Nat → List (List UInt8) × RS
  | 0 => ([], s)
  | n + 1 => ((rTxts bs k s n).1 ++ [(rTxt bs (rTxts bs k s n).2 k).1], (rTxt bs (rTxts bs k s n).2 k).2)
theorem rTxts_length (bs : List UInt8) (k : Int) (s : RS) (n : Nat) : (rTxts bs k s n).1.length = n := by
  induction n with
  | zero => rfl
  | succ n ih => simp [rTxts, ih]

/-- What is read of bytes: a frame, and where the reader is then. -/
def readF (bs : List UInt8) : Fm × RS :=
  let k := rNum bs ⟨0, 0, 0, 0⟩ 1
  if k.1 = 1 then
    let b := rNum bs k.2 8
    let q := rNum bs b.2 8
    let n := rCnt bs q.2 8
    let t := rTxts bs 256 n.2 n.1.toNat
    (⟨1, b.1, q.1, t.1, []⟩, t.2)
  else if k.1 = 2 ∨ k.1 = 3 then
    let q := rNum bs k.2 8
    (⟨k.1, 0, q.1, [], []⟩, q.2)
  else if k.1 = 4 then
    let t := rTxt bs k.2 16100
    (⟨4, 0, 0, [], t.1⟩, t.2)
  else (⟨k.1, 0, 0, [], []⟩, k.2)

/-- Are they those of a frame that may be? -/
def readOk (bs : List UInt8) : Bool := decide ((endR (readF bs).2 bs.length).c = 0) && (readF bs).1.may

end Go.Proofs.YtabhfeocelljdaaGreatDoor

