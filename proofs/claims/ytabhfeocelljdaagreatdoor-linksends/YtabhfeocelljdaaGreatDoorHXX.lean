import Derived.Test.YtabhfeocelljdaaGreatDoorC5
import Derived.Laws.IdiomStrings
/- The document's writer (package fareboxref01): its state in memory ('YSt'), and the contracts of put, Digits, fits, Bytes. -/
namespace Go.Proofs.YtabhfeocelljdaaGreatDoor
open Go.RowKit

/-- The document's writer: its bytes, or none where something was wrong. -/
def YSt (w : World) (p g : Nat) : Option (List UInt8) → Prop
  | some bs => WAt w p g bs
  | none => w.cell? ⟨p, 1, none⟩ = some (.bool true) ∧ w.frozen? ⟨p, 1, none⟩ = false ∧ g < w.heap.size

def YPuts (p g : Nat) (s : Option (List UInt8)) (w w' : World) : Prop := ∃ g', YSt w' p g' s ∧ Fr (fun k => k = p ∨ k = g) w w' ∧ (g' = g ∨ w.heap.size ≤ g')

theorem YPuts.later {p g : Nat} {s : Option (List UInt8)} {w w1 w2 : World} (hf : Fr (fun _ => False) w w1) (h : YPuts p g s w1 w2) : YPuts p g s w w2 := by
  obtain ⟨g', h1, h2, h3⟩ := h
  exact ⟨g', h1, (hf.mono (fun _ _ t => t.elim)).trans h2 (fun _ _ t => t), h3.imp id (fun t => Nat.le_trans hf.size t)⟩

theorem YSt.stay {w w' : World} {p g : Nat} {s : Option (List UInt8)} (h : YSt w p g s) (hs : w.heap.size ≤ w'.heap.size) (hb : ∀ k, k = p ∨ k = g → k < w.heap.size → w'.heap[k]? = w.heap[k]?) : YSt w' p g s := by
  cases s with
  | some bs => exact WAt.stay h hb
  | none =>
    have hp := hb p (.inl rfl) (World.block_lt_of_cell? _ _ h.1)
    exact ⟨(World.cell?_of_block (a := ⟨p, 1, none⟩) hp).trans h.1, (World.frozen?_of_block (a := ⟨p, 1, none⟩) hp).trans h.2.1, Nat.lt_of_lt_of_le h.2.2 hs⟩

theorem YSt.frame {S : Nat → Prop} {w w' : World} {p g : Nat} {s : Option (List UInt8)} (h : YSt w p g s) (hf : Fr S w w') (hp : ¬ S p) (hg : ¬ S g) : YSt w' p g s :=
  h.stay hf.size fun k hk hlt => hf.block k hlt (by rcases hk with rfl | rfl <;> assumption)

theorem YSt.lt {w : World} {p g : Nat} {s : Option (List UInt8)} (h : YSt w p g s) : p < w.heap.size := by
  cases s with
  | some bs => exact WAt.lt h
  | none => exact World.block_lt_of_cell? _ _ h.1

theorem YSt.glt {w : World} {p g : Nat} {s : Option (List UInt8)} (h : YSt w p g s) : g < w.heap.size := by
  cases s with
  | some bs => exact WAt.glt h
  | none => exact h.2.2

theorem YSt.alloc {w : World} {p g : Nat} {s : Option (List UInt8)} (h : YSt w p g s) (o : Obj) : YSt (w.alloc o) p g s :=
  h.stay (by simp) fun _ _ hlt => Below.heap_alloc _ _ _ hlt

/-- What may be handed to append: a slice whose bytes are ms. -/
def Lies (w : World) (v : Value) (ms : List UInt8) : Prop := ∃ ao cap, v = .slice ao ms.length cap ∧ (0 < ms.length → ∃ b off, ao = some ⟨b, off, none⟩ ∧ ∀ j (hj : j < ms.length), w.cell? ⟨b, off + j, none⟩ = some (.int .u8 (ms[j].toNat)))

theorem Row.lies {w : World} {v : Value} {g : Nat} {bs : List UInt8} (h : Row w v g bs) : Lies w v bs := by
  obtain ⟨ao, cap, hv, h1, h2, h3, h4⟩ := h.shape
  exact ⟨ao, cap, hv, fun h0 => ⟨g, 0, h3 (by omega), fun j hj => by rw [Nat.zero_add]; exact h.cells j hj⟩⟩

section
variable {w : World} {p g : Nat}

/-- put, of a piece that may not be. -/
theorem yput_no {s : Option (List UInt8)} (h : YSt w p g s) (v : Value) :
    Calls Tryz.prog 81 #[.pointer (some ⟨p, 0, none⟩), .bool false, v] w fun e w' => e = .returned (.tuple #[]) ∧ YPuts p g none w w' := by
  obtain ⟨u, c1⟩ : ∃ u, w.cell? ⟨p, 1, none⟩ = some (.bool u) := by
    cases s with
    | some bs => exact ⟨_, WAt.c1 h⟩
    | none => exact ⟨_, h.1⟩
  have f1 : w.frozen? ⟨p, 1, none⟩ = false := by
    cases s with
    | some bs => exact WAt.f1 h
    | none => exact h.2.1
  have hlt := h.lt
  have hgl := h.glt
  clear h
  go_enter Tryz.func81, Tryz.ntmps81
  go_wp2
  go_end0
  exact ⟨rfl, g, ⟨World.cell?_setCell_same _ _ _ c1, by rw [World.frozen?_setCell]; exact f1, by simpa [World.setCell] using hgl⟩, (Fr.refl _ _).setCell (p := ⟨p, 1, none⟩) (fun _ => .inl rfl) _, .inl rfl⟩

theorem yput_bad (h : YSt w p g none) (v : Value) :
    Calls Tryz.prog 81 #[.pointer (some ⟨p, 0, none⟩), .bool true, v] w fun e w' => e = .returned (.tuple #[]) ∧ YPuts p g none w w' := by
  have c1 := h.1
  have hlt := h.lt
  have H := hide h
  clear h
  go_enter Tryz.func81, Tryz.ntmps81
  go_wp2
  go_end0
  exact ⟨rfl, g, unhide H, Fr.refl _ _, .inl rfl⟩

theorem yput_some {bs ms : List UInt8} (h : WAt w p g bs) (v : Value) (hv : Lies w v ms) (hfit : bs.length + ms.length ≤ 140737488355328) :
    Calls Tryz.prog 81 #[.pointer (some ⟨p, 0, none⟩), .bool true, v] w fun e w' => e = .returned (.tuple #[]) ∧ Puts p g (bs ++ ms) w w' := by
  obtain ⟨i0, hi, hz0, hz1, hz2⟩ := info_parts Tryz.info5
  obtain ⟨ao, cap, c0, hne, hrow⟩ := h.c0
  obtain ⟨vo, vc, rfl, hvs⟩ := hv
  have c1 := h.c1
  have f0 := h.f0
  have hlt := h.lt
  have HW := hide (And.intro h (And.intro hne hrow))
  have HV := hide hvs
  clear h hne hrow hvs
  go_enter Tryz.func81, Tryz.ntmps81
  go_wp2_with (at_builtin; refine wpList_append_row _ rfl (.tmp 20) (.tmp 21) 23 23 rfl 5 i0 Tryz.underlying23 hi hz0 hz1 hz2 (ao := ao) (cap := cap) (g := g) (bs := bs) rfl ?hrow _ ms rfl ?hsrc ?hfit ?next)
  case hrow => exact (unhide HW).2.2
  case hsrc => exact src_slice Tryz.underlying23 _ _ _ _ (unhide HV)
  case hfit => exact hfit
  case next =>
    intro ao' cap' w' g' hr hf hg
    have k0 := (hf.cell (a := ⟨p, 0, none⟩) hlt (fun t => (unhide HW).2.1 t.2 t.1.symm)).trans c0
    have k1 := (hf.frozen (a := ⟨p, 0, none⟩) hlt (fun t => (unhide HW).2.1 t.2 t.1.symm)).trans f0
    have HR := hide ((unhide HW).1.store c0 (unhide HW).2.1 hr hf hg)
    have hlt2 := Nat.lt_of_lt_of_le hlt hf.size
    clear hr hf hg HV HW c0 f0
    go_wp2
    go_end0
    exact ⟨rfl, unhide HR⟩

/-- put. -/
theorem yput_any {s : Option (List UInt8)} (h : YSt w p g s) (ok : Bool) (v : Value) (ms : List UInt8) (hv : Lies w v ms) (hfit : ok = true → ∀ bs, s = some bs → bs.length + ms.length ≤ 140737488355328) :
    Calls Tryz.prog 81 #[.pointer (some ⟨p, 0, none⟩), .bool ok, v] w fun e w' => e = .returned (.tuple #[]) ∧ YPuts p g (stepW s (if ok then some ms else none)) w w' := by
  cases ok with
  | false =>
    have e : stepW s (if false = true then some ms else none) = none := by cases s <;> rfl
    rw [e]
    exact yput_no h v
  | true =>
    cases s with
    | none => exact yput_bad h v
    | some bs => exact yput_some h v hv (hfit rfl bs rfl)

end

theorem yfits (n k : Nat) (hn : n ≤ 9223372036854775807) (hk : k ≤ 8) (w : World) :
    Calls Tryz.prog 82 #[.int .i64 n, .int .i64 k] w fun e w' => e = .returned (.bool (decide (n < 256 ^ k))) ∧ w = w' := by
  go_enter Tryz.func82, Tryz.ntmps82
  go_wp2
  go_loop [0, 5] (fun nv iv => ∃ j : Nat, j ≤ k ∧ iv = .int .i64 j ∧ nv = .int .i64 ((n / 256 ^ j : Nat) : Int)) (fun _ iv => k - (intOf iv).toNat)
  case atStart => exact ⟨0, Nat.zero_le _, rfl, by simp⟩
  case round =>
    obtain ⟨j, hj, rfl, rfl⟩ := hrel
    obtain ⟨M, HM⟩ : ∃ M, Hid (n / 256 ^ j = M) := ⟨_, rfl⟩
    have hM : M ≤ 9223372036854775807 := by rw [← unhide HM]; exact Nat.le_trans (Nat.div_le_self _ _) hn
    rw [unhide HM]
    by_cases hlt : j < k
    · have hd : decide ((j : Int) < (k : Int)) = true := by simp; omega
      have hd2 : decide ((j : Int) < 8) = true := by simp; omega
      go_wp2
      refine ⟨⟨j + 1, by omega, by go_num, ?_⟩, by simp [intOf]; omega⟩
      have e : n / 256 ^ (j + 1) = M / 256 := by rw [← unhide HM, Nat.div_div_eq_div_mul, Nat.pow_succ]
      rw [e]
      congr 1
    · obtain rfl : j = k := by omega
      have hd : decide ((j : Int) < (j : Int)) = false := by simp
      go_wp2
      go_ret
      refine ⟨?_, rfl⟩
      have e : ((M : Int) == 0) = decide (n < 256 ^ j) := by
        rw [Bool.eq_iff_iff]
        simp only [beq_iff_eq, decide_eq_true_eq]
        have h1 : n < 256 ^ j ↔ M = 0 := by rw [← unhide HM]; exact (Nat.div_eq_zero_iff_lt (Nat.pow_pos (by omega))).symm
        omega
      rw [← e]
      rfl

/-- Digits: a number's bytes, in a row of their own. -/
def Made (w : World) (ms : List UInt8) (e : Ending) (w' : World) : Prop := ∃ v g, e = .returned v ∧ Row w' v g ms ∧ Fr (fun _ => False) w w' ∧ w.heap.size ≤ g

theorem byte_is (n j : Nat) : ((n : Int) / 2 ^ (8 * j) % 256) = ((byteAt n j).toNat : Int) := by
  have e3 : (2 : Int) ^ (8 * j) = ((256 ^ j : Nat) : Int) := by rw [Int.pow_mul]; simp
  rw [e3, ← Int.natCast_ediv]
  unfold byteAt
  simp

theorem one_byte2 (w : World) (n j i : Nat) (hi : i < [byteAt n j].length) : (w.alloc (.cells #[.int .u8 ((n : Int) / 2 ^ (8 * j) % 256)] 5)).cell? ⟨w.heap.size, 0 + i, none⟩ = some (.int .u8 ([byteAt n j][i].toNat)) := by
  have : i = 0 := by simpa using hi
  subst this
  rw [byte_is]
  simp

theorem ydigits (n k : Nat) (hk : k ≤ 8) (w : World) :
    Calls Tryz.prog 83 #[.int .u64 n, .int .i64 k] w (Made w (digs n k)) := by
  obtain ⟨i0, hi, hz0, hz1, hz2⟩ := info_parts Tryz.info5
  go_enter Tryz.func83, Tryz.ntmps83
  go_wp2
  go_loopw [5, 6] (fun ov lv wl => ∃ j : Nat, j ≤ k ∧ lv = .int .i64 ((j : Int) - 1) ∧ ∃ l ao cap g, ov = .slice ao l.length cap ∧ Hid (digs n k = l ++ digs n j) ∧ Hid (l.length + j = k) ∧ Hid (Row wl (.slice ao l.length cap) g l ∧ Fr (fun _ => False) w wl ∧ w.heap.size ≤ g)) (fun _ lv _ => ((intOf lv) + 1).toNat)
  case atStart => exact ⟨k, Nat.le_refl _, rfl, [], none, 0, w.heap.size, rfl, rfl, by simp [Hid], Row.nil _ _, Fr.refl _ _, Nat.le_refl _⟩
  case round =>
    obtain ⟨j, hj, rfl, l, ao, cap, g, rfl, hl, hlen, hp⟩ := hrel
    by_cases hlt : 0 < j
    · obtain ⟨j, rfl⟩ : ∃ i, j = i + 1 := ⟨j - 1, by omega⟩
      have hge : decide ((0 : Int) ≤ ((j + 1 : Nat) : Int) - 1) = true := by simp
      rw [show ((j + 1 : Nat) : Int) - 1 = (j : Int) by omega] at hge ⊢
      have hcfit : l.length + 1 ≤ 140737488355328 := by have := unhide hlen; omega
      have hj7 : (j : Int) ≤ 7 := by omega
      go_wp2_with (at_builtin; refine wpList_append_row _ rfl (.tmp 13) (.tmp 20) 23 23 rfl 5 i0 Tryz.underlying23 hi hz0 hz1 hz2 (ao := ao) (cap := cap) (g := g) (bs := l) rfl ?hrow _ [byteAt n j] rfl ?hsrc ?hfit ?next)
      case hrow => exact (unhide hp).1.stay (fun hx => Below.heap_alloc wr _ _ hx)
      case hsrc => exact src_slice Tryz.underlying23 _ _ 1 [byteAt n j] (fun _ => ⟨wr.heap.size, 0, rfl, fun i hi1 => one_byte2 wr n j i hi1⟩)
      case hfit => exact hcfit
      case next =>
        intro ao' cap' w1 g2 hr hf hg
        have h0 := (unhide hp).2
        have HR := hide (And.intro hr (And.intro (((h0.1.alloc (.cells #[.int .u8 ((n : Int) / 2 ^ (8 * j) % 256)] 5))).trans hf (fun i hi t => by omega)) (show w.heap.size ≤ g2 by
          rcases hg with hg | hg
          · omega
          · have h1 := h0.1.size
            omega)))
        clear hr hf hg h0
        go_wp2
        refine ⟨⟨j, by omega, rfl, l ++ [byteAt n j], ao', cap', g2, by simp, ?_, ?_, ?_⟩, by simp [intOf]⟩
        · show _ = _; rw [unhide hl]; simp [digs]
        · show _ = _; have := unhide hlen; simp; omega
        · have := unhide HR
          rw [List.length_append]
          exact this
    · obtain rfl : j = 0 := by omega
      have hge : decide ((0 : Int) ≤ ((0 : Nat) : Int) - 1) = false := by simp
      go_wp2
      go_ret
      have e1 : digs n k = l := by rw [unhide hl]; simp [digs]
      rw [e1]
      exact ⟨_, g, rfl, unhide hp⟩

end Go.Proofs.YtabhfeocelljdaaGreatDoor

/- The document's writer: contracts of its calls. Each leaves the writer as the program's own does ('stepW'). -/
namespace Go.Proofs.YtabhfeocelljdaaGreatDoor
open Go.RowKit

section
variable {w : World} {p g : Nat} {s : Option (List UInt8)}

theorem Lies.nil (w : World) : Lies w (.slice none 0 0) [] := ⟨none, 0, rfl, fun h => absurd h (by simp)⟩

theorem yNumber (h : YSt w p g s) (hfit : ∀ bs, s = some bs → bs.length + 8 ≤ 140737488355328) (n size : Int) (hn : n ≤ 9223372036854775807) :
    Calls Tryz.prog 56 #[.pointer (some ⟨p, 0, none⟩), .int .i64 n, .int .i64 size] w fun e w' => e = .returned (.tuple #[]) ∧ YPuts p g (stepW s (wNumber n size)) w w' := by
  have H := hide h
  clear h
  by_cases hb : size < 1 ∨ 8 < size ∨ n < 0
  · have e0 : stepW s (wNumber n size) = none := by
      rw [show wNumber n size = none by unfold wNumber; rw [if_neg (by omega)]]
      cases s <;> rfl
    rw [e0]
    by_cases h1 : size < 1
    · have d1 : decide (size < 1) = true := by simp; omega
      go_enter Tryz.func56, Tryz.ntmps56
      go_wp2_with fail
      refine (yput_no (unhide H) _).mono ?_
      rintro e w1 ⟨rfl, hP⟩
      have HP := hide hP
      clear hP
      go_wp2
      exact bodyPost_ret (v := .tuple #[]) (results_none rfl _ _ _) rfl ⟨rfl, unhide HP⟩
    · have d1 : decide (size < 1) = false := by simp; omega
      by_cases h2 : 8 < size
      · have d2 : decide (8 < size) = true := by simp; omega
        go_enter Tryz.func56, Tryz.ntmps56
        go_wp2_with fail
        refine (yput_no (unhide H) _).mono ?_
        rintro e w1 ⟨rfl, hP⟩
        have HP := hide hP
        clear hP
        go_wp2
        exact bodyPost_ret (v := .tuple #[]) (results_none rfl _ _ _) rfl ⟨rfl, unhide HP⟩
      · have d2 : decide (8 < size) = false := by simp; omega
        have d3 : decide (n < 0) = true := by simp; omega
        go_enter Tryz.func56, Tryz.ntmps56
        go_wp2_with fail
        refine (yput_no (unhide H) _).mono ?_
        rintro e w1 ⟨rfl, hP⟩
        have HP := hide hP
        clear hP
        go_wp2
        exact bodyPost_ret (v := .tuple #[]) (results_none rfl _ _ _) rfl ⟨rfl, unhide HP⟩
  obtain ⟨k, rfl⟩ : ∃ k : Nat, size = k := ⟨size.toNat, by omega⟩
  obtain ⟨m, rfl⟩ : ∃ m : Nat, n = m := ⟨n.toNat, by omega⟩
  have d1 : decide ((k : Int) < 1) = false := by simp; omega
  have d2 : decide (8 < (k : Int)) = false := by simp; omega
  have d3 : decide ((m : Int) < 0) = false := by simp
  have e1 : wNumber m k = if (decide (m < 256 ^ k)) = true then some (digs m k) else none := by
    unfold wNumber
    have e2 : ((m : Int) < 256 ^ (k : Int).toNat) ↔ m < 256 ^ k := by
      rw [Int.toNat_natCast]
      rw [show ((256 : Int) ^ k) = ((256 ^ k : Nat) : Int) by simp]
      exact Int.ofNat_lt
    by_cases h : m < 256 ^ k
    · rw [if_pos ⟨by omega, by omega, by omega, e2.2 h⟩, if_pos (by simpa using h)]
      simp
    · rw [if_neg (fun t => h (e2.1 t.2.2.2)), if_neg (by simpa using h)]
  rw [e1]
  have hm : m ≤ 9223372036854775807 := by omega
  have hk : k ≤ 8 := by omega
  have hwm : IntKind.u64.wrap (m : Int) = m := wrap_u64_small m (by omega)
  generalize hok : decide (m < 256 ^ k) = ok
  have HK := hide hok
  obtain ⟨st, Hst⟩ : ∃ st, Hid (stepW s (if ok = true then some (digs m k) else none) = st) := ⟨_, rfl⟩
  rw [unhide Hst]
  clear hok e1 hb
  go_enter Tryz.func56, Tryz.ntmps56
  go_wp2_with fail
  refine (yfits m k hm hk _).mono ?_
  rw [unhide HK]
  rintro e w1 ⟨rfl, rfl⟩
  go_wp2_with fail
  refine (ydigits m k hk _).mono ?_
  rintro e w1 ⟨v, gv, rfl, hrow, hF, hgv⟩
  have HD := hide (And.intro hrow hF)
  clear hrow hF hgv
  go_wp2_with fail
  refine (yput_any ((unhide H).frame (unhide HD).2 (fun t => t) (fun t => t)) ok v (digs m k) (unhide HD).1.lies (fun _ bs hbs => by have := hfit bs hbs; rw [digs_length]; omega)).mono ?_
  rw [unhide Hst]
  rintro e w2 ⟨rfl, hP⟩
  have HP := hide (YPuts.later (unhide HD).2 hP)
  clear hP
  go_wp2
  go_end0
  exact ⟨rfl, unhide HP⟩

theorem yCount (h : YSt w p g s) (hfit : ∀ bs, s = some bs → bs.length + 8 ≤ 140737488355328) (n : Int) (hn : n ≤ 9223372036854775807) :
    Calls Tryz.prog 57 #[.pointer (some ⟨p, 0, none⟩), .int .i64 n] w fun e w' => e = .returned (.tuple #[]) ∧ YPuts p g (stepW s (wCount n)) w w' := by
  have HC := hide (yNumber h hfit n 2 hn)
  have e : wCount n = wNumber n 2 := by
    unfold wCount wNumber
    by_cases h : 0 ≤ n ∧ n ≤ 65535
    · rw [if_pos h, if_pos ⟨by omega, by omega, h.1, by simp; omega⟩]; rfl
    · rw [if_neg h, if_neg (fun t => h ⟨t.2.2.1, by have := t.2.2.2; simp at this; omega⟩)]
  rw [e]
  clear h e
  go_enter Tryz.func57, Tryz.ntmps57
  go_wp2_with fail
  refine (unhide HC).mono ?_
  rintro e w2 ⟨rfl, hP⟩
  have HP := hide hP
  clear hP
  go_wp2
  go_end0
  exact ⟨rfl, unhide HP⟩

end
end Go.Proofs.YtabhfeocelljdaaGreatDoor

/- The document's writer: Text, Fixed; the law's own function model. -/
namespace Go.Proofs.YtabhfeocelljdaaGreatDoor
open Go.RowKit

section
variable {w : World} {p g : Nat} {s : Option (List UInt8)}

theorem yText (h : YSt w p g s) (t : ByteArray) (hsz : t.size ≤ 1048576) (hfit : ∀ bs, s = some bs → t.size ≤ 65535 → bs.length + 2 + t.size ≤ 140737488355328) :
    Calls Tryz.prog 58 #[.pointer (some ⟨p, 0, none⟩), .string t] w fun e w' => e = .returned (.tuple #[]) ∧ YPuts p g (stepW s (wText t)) w w' := by
  obtain ⟨i0, hi, hz0, hz1, hz2⟩ := info_parts Tryz.info5
  have H := hide h
  have HFit := hide hfit
  clear h hfit
  have hwm : IntKind.u64.wrap (t.size : Int) = t.size := wrap_u64_small t.size (by omega)
  have hdl : t.data.toList.length = t.size := rfl
  have HDL := hide hdl
  obtain ⟨ok, hok⟩ : ∃ ok, decide ((t.size : Int) ≤ 65535) = ok := ⟨_, rfl⟩
  obtain ⟨st, Hst⟩ : ∃ st, Hid (stepW s (if ok = true then some (digs t.size 2 ++ t.data.toList) else none) = st) := ⟨_, rfl⟩
  rw [show stepW s (wText t) = st by
    rw [← unhide Hst, ← hok]; unfold wText
    by_cases hs : t.size ≤ 65535
    · rw [if_pos hs, if_pos (by simp; omega)]
    · rw [if_neg hs, if_neg (by simp; omega)]]
  have HOK := hide (show ok = true → t.size ≤ 65535 from fun e => by rw [e] at hok; simp at hok; omega)
  clear hdl
  go_enter Tryz.func58, Tryz.ntmps58
  go_wp2_with fail
  refine (ydigits t.size 2 (by omega) _).mono ?_
  rintro e w1 ⟨v, gv, rfl, hrow, hF, hgv⟩
  obtain ⟨ao, cap, rfl, _⟩ := hrow.shape
  have HD := hide (And.intro hrow hF)
  have HG := hide hgv
  clear hrow hF hgv
  go_wp2_with (at_builtin; refine wpList_append_row _ rfl (.tmp 9) (.tmp 10) 23 9 rfl 5 i0 Tryz.underlying23 hi hz0 hz1 hz2 (ao := ao) (cap := cap) (g := gv) (bs := digs t.size 2) rfl ?hrow _ t.data.toList rfl ?hsrc ?hfit ?next)
  case hrow => exact (unhide HD).1
  case hsrc => exact src_string Tryz.underlying9 t _
  case hfit => rw [digs_length, unhide HDL]; omega
  case next =>
    intro ao' cap' w2 g2 hr hf hg
    have HR := hide (And.intro hr ((unhide HD).2.trans hf (fun i hi t => by have := unhide HG; omega)))
    clear hr hf hg HD HG
    go_wp2_with fail
    refine (yput_any ((unhide H).frame (unhide HR).2 (fun t => t) (fun t => t)) ok _ (digs t.size 2 ++ t.data.toList) (by have := (unhide HR).1.lies; exact this) (fun e bs hbs => by have := unhide HFit bs hbs (unhide HOK e); rw [List.length_append, digs_length, unhide HDL]; omega)).mono ?_
    rw [unhide Hst]
    rintro e w3 ⟨rfl, hP⟩
    have HP := hide (YPuts.later (unhide HR).2 hP)
    clear hP
    go_wp2
    go_end0
    exact ⟨rfl, unhide HP⟩

end
end Go.Proofs.YtabhfeocelljdaaGreatDoor

