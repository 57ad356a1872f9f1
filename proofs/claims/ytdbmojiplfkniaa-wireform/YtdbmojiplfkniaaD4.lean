/- The walk of the law WireForm. -/
import Derived.Test.YtdbmojiplfkniaaE0
namespace Go.Proofs.Ytdbmojiplfkniaa
open Go.RowKit

theorem run_store_float {P : Program} {w : World} {a : Addr} {m : Mode} (x : Nat) : (store a (.float .f64 x) m).run P w = stored P w a (.float .f64 x) m := run_store P w a _ m rfl
attribute [local go_sem] run_store_float

theorem at_any' (p : Nat) (a : Int) (w : World) (h1 : w.cell? ⟨p, 1, none⟩ = some (.int .i64 a)) :
    Calls Try.prog 20 #[.pointer (some ⟨p, 0, none⟩)] w fun e w' => e = .returned (.int .i64 a) ∧ w' = w :=
  (at_any p a w h1).mono fun _ _ h => ⟨h.1, h.2.symm⟩

theorem conv_arg {w : World} {ao : Option Addr} {cap : Nat} {bs : List UInt8} (h : BAt w ao cap bs) (k c : Nat) (hk : k ≤ bs.length) : (convert 27 9 (.slice ao k c)).run Try.prog w = .ok (.string ⟨(bs.take k).toArray⟩) w := by
  by_cases h0 : 0 < k
  · obtain ⟨b, off, rfl, hc⟩ := h.2.1 (by omega)
    have hL : (bs.take k).length = k := by rw [List.length_take]; omega
    have := run_convert_bytes_back (P := Try.prog) w 27 9 5 ⟨b, off, none⟩ c (bs.take k) Try.underlying27 Try.underlying5 Try.underlying9 (fun j hj => by
      have hplain : (⟨b, off, none⟩ : Addr).add j = ⟨b, off + j, none⟩ := Addr.add_lit ..
      rw [hplain, hc j (by omega)]
      simp [List.getElem_take])
    rwa [hL] at this
  · obtain rfl : k = 0 := by omega
    cases ao with
    | none =>
      rw [run_convert_bytes_nil w 27 5 Try.underlying27 Try.underlying5 0 c 9 Try.underlying9]
      simp; rfl
    | some x =>
      have := run_convert_bytes_back (P := Try.prog) w 27 9 5 x c [] Try.underlying27 Try.underlying5 Try.underlying9 (fun j hj => by simp at hj)
      simpa using this

theorem put_take {bs : List UInt8} {a a' : Nat} {q : Pc} (hq : q.bytes = some ((bs.drop a).take (a' - a))) (h : a ≤ a') : putW (some (bs.take a)) q = some (bs.take a') := by
  unfold putW
  rw [hq]
  simp only [stepW]
  rw [← List.take_add, show a + (a' - a) = a' by omega]

theorem put_same {s : Option (List UInt8)} {q : Pc} (hk : q.kind < 0 ∨ 6 < q.kind) : putW s q = s := by
  unfold putW
  rw [bytes_other hk, stepW_nil]

theorem take_len {bs : List UInt8} {a : Nat} (h : a ≤ bs.length) : (bs.take a).length = a := by rw [List.length_take]; omega

set_option maxHeartbeats 40000000 in
set_option maxRecDepth 100000 in
theorem form_walk (w : World) (ao : Option Addr) (cap : Nat) (bs : List UInt8) (hB : BAt w ao cap bs) (hbig : bs.length ≤ 140737488351232) (hbc : bs.length ≤ cap) (hcm : cap ≤ 140737488355328) (lo : Option Addr) (lc : Nat) (ps : List Pc) (hL : LAt w lo ps) :
    Calls Try.prog 6 #[.slice ao bs.length cap, .slice lo ps.length lc] w fun e w' => e = .returned (.bool true) ∧ Fr (fun _ => False) w w' := by
  have HB := hide hB
  have HL := hide hL
  have hpl := hL.2.1
  clear hB hL
  go_enter Try.func6, Try.ntmps6
  go_wp2_with fail
  refine (awake_any _).mono ?_
  rintro e w1 ⟨rfl, hF1⟩
  have HF1 := hide hF1
  clear hF1
  go_wp2_with fail
  refine (newreader2 _ ao cap bs ((unhide HB).later (unhide HF1))).mono ?_
  rintro e w2 ⟨rp, rg, rfl, hR, hF2, hg1, hg2, hg3⟩
  go_wp2_with fail
  refine (newwriter_any _).mono ?_
  rintro e wn ⟨rfl, rfl⟩
  have hrl := RAt.lt hR
  have hs1 := (unhide HF1).size
  have hs2 := hF2.size
  have hRW : RW w (w2.alloc (.cells #[.slice none 0 0, .bool false] 68)) rp rg bs ⟨0, 0, 0, 0⟩ w2.heap.size w2.heap.size (some []) :=
    ⟨((unhide HF1).trans hF2 (fun _ _ t => t)).alloc _, by omega, by omega, by omega, by omega, by omega, by omega, by omega, by simp; omega, RAt.alloc hR _, newW⟩
  have HR := hide hRW
  clear hR hF2 hg1 hg2 hg3 hrl hs1 hs2 hRW HF1
  generalize (w2.alloc (.cells #[.slice none 0 0, .bool false] 68)) = wn at HR ⊢
  obtain ⟨p, hp⟩ : ∃ p, w2.heap.size = p := ⟨_, rfl⟩
  rw [hp] at HR ⊢
  clear hp
  go_wp2
  go_loopw [8] (fun iv wk => ∃ i : Nat, i ≤ ps.length ∧ iv = .int .i64 i ∧ ∃ (s : RS) (g : Nat), Hid (RW w wk rp rg bs s p g (some (bs.take s.a)) ∧ s.c = 0)) (fun iv _ => ps.length - (intOf iv).toNat)
  case atStart => exact ⟨0, Nat.zero_le _, rfl, ⟨0, 0, 0, 0⟩, p, unhide HR, rfl⟩
  case round =>
    obtain ⟨i, hi, rfl, s, g, HS⟩ := hrel
    by_cases hlt : i < ps.length
    · obtain ⟨b, off, rfl⟩ : ∃ b off, lo = some ⟨b, off, none⟩ := by
        obtain ⟨b, off, e, _⟩ := (unhide HL).1 (by omega)
        exact ⟨b, off, e⟩
      obtain ⟨q0, q1, q2, q3, q4, q5⟩ := (unhide HL).cells (unhide HS).1.fr i hlt
      have hqn := (unhide HL).2.2 ps[i] (List.getElem_mem hlt)
      generalize ps[i] = q at q0 q1 q2 q3 q4 q5 hqn
      obtain ⟨kind, n, size, x, is, t⟩ := q
      simp only at q0 q1 q2 q3 q4 q5 hqn
      have HQN := hide hqn
      have hrpl := RAt.lt (unhide HS).1.r
      have hrgl := (unhide HS).1.rl
      have hpl2 := (unhide HS).1.plt
      have hgl := (unhide HS).1.glt
      have hws := (unhide HS).1.fr.size
      have hale : s.a ≤ bs.length := (unhide HS).1.r.le
      clear hqn HR
      have e1 : wr.heap.size ≠ rp := Nat.ne_of_gt hrpl
      have e2 : wr.heap.size ≠ rg := Nat.ne_of_gt hrgl
      have e3 : wr.heap.size ≠ p := Nat.ne_of_gt hpl2
      have e4 : wr.heap.size ≠ g := Nat.ne_of_gt hgl
      by_cases hko : kind < 0 ∨ 6 < kind
      · have h0 : (kind == 0) = false := by simp; omega
        have h1 : (kind == 1) = false := by simp; omega
        have h2 : (kind == 2) = false := by simp; omega
        have h3 : (kind == 3) = false := by simp; omega
        have h4 : (kind == 4) = false := by simp; omega
        have h5 : (kind == 5) = false := by simp; omega
        have h6 : (kind == 6) = false := by simp; omega
        have HKO := hide hko
        clear hko
        go_wp2_with fail
        have hA := (unhide HS).1.alloc (.cells #[.int .i64 kind, .int .i64 n, .int .i64 size, .float .f64 x, .bool is, .string t] 34)
        have c3 := hA.r.c3
        rw [(unhide HS).2] at c3
        refine (fault_any rp 0 s.f _ c3 hA.r.c4 (RAt.lt hA.r)).mono ?_
        rintro e w7 ⟨rfl, rfl⟩
        clear q0 q1 q2 q3 q4 q5 c3 hA
        go_wp2_with fail
        have hW8 := (((unhide HS).1.alloc (.cells #[.int .i64 kind, .int .i64 n, .int .i64 size, .float .f64 x, .bool is, .string t] 34)).alloc (.cells #[.int .i64 0, .int .i64 s.f] 47)).alloc (.cells #[.int .i64 0, .int .i64 s.f] 47)
        refine (lpf_any hW8.st ⟨kind, n, size, x, is, t⟩ (fun bs' hb => by injection hb with hb; rw [← hb, take_len hale]; exact ⟨by omega, fun hk => by have := unhide HKO; simp only at hk; omega⟩) (unhide HQN)).mono ?_
        rintro e w9 ⟨rfl, hP⟩
        obtain ⟨g', hW9⟩ := hW8.writer hP
        have HW9 := hide hW9
        clear hW8 hP hW9 e1 e2 e3 e4
        go_wp2
        refine ⟨⟨i + 1, by omega, by go_num, s, g', ?_, (unhide HS).2⟩, by simp [intOf]; omega⟩
        have := unhide HW9
        rw [put_same (unhide HKO)] at this
        exact this
      have hk2 : kind = 0 ∨ kind = 1 ∨ kind = 2 ∨ kind = 3 ∨ kind = 4 ∨ kind = 5 ∨ kind = 6 := by omega
      clear hko
      rcases hk2 with rfl | rfl | rfl | rfl | rfl | rfl | rfl
      · cases ho : oNumber bs s.a size with
        | ok va =>
          obtain ⟨v, a'⟩ := va
          obtain ⟨r, rfl, hf1, hf2, hf3, hf4⟩ := form_number ho
          have hst : stepR s (.int .i64 0) (oNumber bs s.a size) = (.int .i64 r, ⟨a', s.a, 0, s.f⟩) := by rw [ho]; simp only [stepR, (unhide HS).2, if_true]
          have HT := hide (And.intro hst (And.intro hf1 (And.intro hf2 (And.intro hf3 hf4))))
          clear hst ho hf1 hf2 hf3 hf4
          go_wp2_with fail
          have hA := (unhide HS).1.alloc (.cells #[.int .i64 0, .int .i64 n, .int .i64 size, .float .f64 x, .bool is, .string t] 34)
          refine (rnumber_any hA.r size).mono ?_
          rw [(unhide HT).1]
          rintro e w5 ⟨rfl, hS5, hF5⟩
          have hW5 := hA.reader hS5 hF5
          have hsz5 := hF5.size
          have m0 := (hF5.cell (a := ⟨wr.heap.size, 0, none⟩) (by simp) e1).trans (show _ = some (.int .i64 0) by simp)
          have m1 := (hF5.cell (a := ⟨wr.heap.size, 1, none⟩) (by simp) e1).trans (show _ = some (.int .i64 n) by simp)
          have m2 := (hF5.cell (a := ⟨wr.heap.size, 2, none⟩) (by simp) e1).trans (show _ = some (.int .i64 size) by simp)
          have m3 := (hF5.cell (a := ⟨wr.heap.size, 3, none⟩) (by simp) e1).trans (show _ = some (.float .f64 x) by simp)
          have m4 := (hF5.cell (a := ⟨wr.heap.size, 4, none⟩) (by simp) e1).trans (show _ = some (.bool is) by simp)
          have m5 := (hF5.cell (a := ⟨wr.heap.size, 5, none⟩) (by simp) e1).trans (show _ = some (.string t) by simp)
          have fz := (hF5.frozen (a := ⟨wr.heap.size, 1, none⟩) (by simp) e1).trans (World.frozen?_alloc_new _ _ _ _)
          have HW5 := hide hW5
          clear hA hS5 hF5 hW5 q0 q1 q2 q3 q4 q5
          go_wp2_with fail
          have hW6 := (unhide HW5).set (by omega) e1 e2 e3 e4 1 (.int .i64 r)
          refine (fault_any rp 0 s.f _ hW6.r.c3 hW6.r.c4 (RAt.lt hW6.r)).mono ?_
          rintro e w7 ⟨rfl, rfl⟩
          have hpbl := World.block_lt_of_cell? _ _ m0
          have hpbl' : wr.heap.size < w5.heap.size := hpbl
          clear hW6 hpbl
          go_wp2_with fail
          have hW8 := (((unhide HW5).set (by omega) e1 e2 e3 e4 1 (.int .i64 r)).alloc (.cells #[.int .i64 0, .int .i64 s.f] 47)).alloc (.cells #[.int .i64 0, .int .i64 s.f] 47)
          refine (lpf_any hW8.st ⟨0, r, size, x, is, t⟩ (fun bs' hb => by injection hb with hb; rw [← hb, take_len hale]; have hh := (unhide HT).2; exact ⟨by omega, fun hk hsz => by simp at hk⟩) (unhide HT).2.1).mono ?_
          rintro e w9 ⟨rfl, hP⟩
          obtain ⟨g', hW9⟩ := hW8.writer hP
          have HW9 := hide hW9
          clear hW8 hP hW9 HW5 m0 m1 m2 m3 m4 m5 fz e1 e2 e3 e4
          go_wp2
          refine ⟨⟨i + 1, by omega, by go_num, ⟨a', s.a, 0, s.f⟩, g', ?_, rfl⟩, by simp [intOf]; omega⟩
          have := unhide HW9
          rw [put_take (a' := a') (show Pc.bytes ⟨0, r, size, x, is, t⟩ = _ from (unhide HT).2.2.1) (unhide HT).2.2.2.1] at this
          exact this
        | error xe =>
          have hx := oNumber_err ho
          have hst : stepR s (.int .i64 0) (oNumber bs s.a size) = (.int .i64 0, ⟨s.a, s.l, xe, s.a⟩) := by rw [ho]; simp only [stepR, (unhide HS).2, if_true]
          have hxb : (xe != 0) = true := by simp [hx]
          have HT := hide hst
          clear hst ho hx
          go_wp2_with fail
          have hA := (unhide HS).1.alloc (.cells #[.int .i64 0, .int .i64 n, .int .i64 size, .float .f64 x, .bool is, .string t] 34)
          refine (rnumber_any hA.r size).mono ?_
          rw [unhide HT]
          rintro e w5 ⟨rfl, hS5, hF5⟩
          have hW5 := hA.reader hS5 hF5
          have hsz5 := hF5.size
          have m0 := (hF5.cell (a := ⟨wr.heap.size, 0, none⟩) (by simp) e1).trans (show _ = some (.int .i64 0) by simp)
          have m1 := (hF5.cell (a := ⟨wr.heap.size, 1, none⟩) (by simp) e1).trans (show _ = some (.int .i64 n) by simp)
          have m2 := (hF5.cell (a := ⟨wr.heap.size, 2, none⟩) (by simp) e1).trans (show _ = some (.int .i64 size) by simp)
          have m3 := (hF5.cell (a := ⟨wr.heap.size, 3, none⟩) (by simp) e1).trans (show _ = some (.float .f64 x) by simp)
          have m4 := (hF5.cell (a := ⟨wr.heap.size, 4, none⟩) (by simp) e1).trans (show _ = some (.bool is) by simp)
          have m5 := (hF5.cell (a := ⟨wr.heap.size, 5, none⟩) (by simp) e1).trans (show _ = some (.string t) by simp)
          have fz := (hF5.frozen (a := ⟨wr.heap.size, 1, none⟩) (by simp) e1).trans (World.frozen?_alloc_new _ _ _ _)
          have HW5 := hide hW5
          clear hA hS5 hF5 hW5 q0 q1 q2 q3 q4 q5 m2 m3 m4 m5
          go_wp2_with fail
          have hW6 := (unhide HW5).set (by omega) e1 e2 e3 e4 1 (.int .i64 0)
          refine (fault_any rp xe s.a _ hW6.r.c3 hW6.r.c4 (RAt.lt hW6.r)).mono ?_
          rintro e w7 ⟨rfl, rfl⟩
          have c1 := (hW6.alloc (.cells #[.int .i64 xe, .int .i64 s.a] 47)).r.c1
          have c1' := ((hW6.alloc (.cells #[.int .i64 xe, .int .i64 s.a] 47)).alloc (.cells #[.int .i64 xe, .int .i64 s.a] 47)).r.c1
          have HW7 := hide ((hW6.alloc (.cells #[.int .i64 xe, .int .i64 s.a] 47)).alloc (.cells #[.int .i64 xe, .int .i64 s.a] 47))
          have hg1 : decide ((0 : Int) ≤ (s.a : Int)) = true := by simp
          have hg2 : decide ((s.a : Int) ≤ (bs.length : Int)) = true := by simp; omega
          have mf : (((w5.setCell ⟨wr.heap.size, 1, none⟩ (.int .i64 0)).alloc (.cells #[.int .i64 xe, .int .i64 s.a] 47)).alloc (.cells #[.int .i64 xe, .int .i64 s.a] 47)).cell? ⟨w5.heap.size + 1, 1, none⟩ = some (.int .i64 s.a) := by simp [go_sem]
          clear hW6 c1
          go_wp2_with fail
          go_quiet ((go_at_call 20; exact Calls.quiet_of_same (at_any' rp s.a _ (by simpa using c1'))))
          go_wp2
          go_ret
          exact ⟨rfl, (unhide HW7).fr.drewN nq⟩
      · cases ho : oInt bs s.a with
        | ok va =>
          obtain ⟨v, a'⟩ := va
          obtain ⟨r, rfl, hf1, hf2, hf3, hf4⟩ := form_int ho
          have hst : stepR s (.int .i64 0) (oInt bs s.a) = (.int .i64 r, ⟨a', s.a, 0, s.f⟩) := by rw [ho]; simp only [stepR, (unhide HS).2, if_true]
          have HT := hide (And.intro hst (And.intro hf1 (And.intro hf2 (And.intro hf3 hf4))))
          clear hst ho hf1 hf2 hf3 hf4
          go_wp2_with fail
          have hA := (unhide HS).1.alloc (.cells #[.int .i64 1, .int .i64 n, .int .i64 size, .float .f64 x, .bool is, .string t] 34)
          refine (rint_any hA.r).mono ?_
          rw [(unhide HT).1]
          rintro e w5 ⟨rfl, hS5, hF5⟩
          have hW5 := hA.reader hS5 hF5
          have hsz5 := hF5.size
          have m0 := (hF5.cell (a := ⟨wr.heap.size, 0, none⟩) (by simp) e1).trans (show _ = some (.int .i64 1) by simp)
          have m1 := (hF5.cell (a := ⟨wr.heap.size, 1, none⟩) (by simp) e1).trans (show _ = some (.int .i64 n) by simp)
          have m2 := (hF5.cell (a := ⟨wr.heap.size, 2, none⟩) (by simp) e1).trans (show _ = some (.int .i64 size) by simp)
          have m3 := (hF5.cell (a := ⟨wr.heap.size, 3, none⟩) (by simp) e1).trans (show _ = some (.float .f64 x) by simp)
          have m4 := (hF5.cell (a := ⟨wr.heap.size, 4, none⟩) (by simp) e1).trans (show _ = some (.bool is) by simp)
          have m5 := (hF5.cell (a := ⟨wr.heap.size, 5, none⟩) (by simp) e1).trans (show _ = some (.string t) by simp)
          have fz := (hF5.frozen (a := ⟨wr.heap.size, 1, none⟩) (by simp) e1).trans (World.frozen?_alloc_new _ _ _ _)
          have HW5 := hide hW5
          clear hA hS5 hF5 hW5 q0 q1 q2 q3 q4 q5
          go_wp2_with fail
          have hW6 := (unhide HW5).set (by omega) e1 e2 e3 e4 1 (.int .i64 r)
          refine (fault_any rp 0 s.f _ hW6.r.c3 hW6.r.c4 (RAt.lt hW6.r)).mono ?_
          rintro e w7 ⟨rfl, rfl⟩
          have hpbl := World.block_lt_of_cell? _ _ m0
          have hpbl' : wr.heap.size < w5.heap.size := hpbl
          clear hW6 hpbl
          go_wp2_with fail
          have hW8 := (((unhide HW5).set (by omega) e1 e2 e3 e4 1 (.int .i64 r)).alloc (.cells #[.int .i64 0, .int .i64 s.f] 47)).alloc (.cells #[.int .i64 0, .int .i64 s.f] 47)
          refine (lpf_any hW8.st ⟨1, r, size, x, is, t⟩ (fun bs' hb => by injection hb with hb; rw [← hb, take_len hale]; have hh := (unhide HT).2; exact ⟨by omega, fun hk hsz => by simp at hk⟩) (unhide HT).2.1).mono ?_
          rintro e w9 ⟨rfl, hP⟩
          obtain ⟨g', hW9⟩ := hW8.writer hP
          have HW9 := hide hW9
          clear hW8 hP hW9 HW5 m0 m1 m2 m3 m4 m5 fz e1 e2 e3 e4
          go_wp2
          refine ⟨⟨i + 1, by omega, by go_num, ⟨a', s.a, 0, s.f⟩, g', ?_, rfl⟩, by simp [intOf]; omega⟩
          have := unhide HW9
          rw [put_take (a' := a') (show Pc.bytes ⟨1, r, size, x, is, t⟩ = _ from (unhide HT).2.2.1) (unhide HT).2.2.2.1] at this
          exact this
        | error xe =>
          have hx := oInt_err ho
          have hst : stepR s (.int .i64 0) (oInt bs s.a) = (.int .i64 0, ⟨s.a, s.l, xe, s.a⟩) := by rw [ho]; simp only [stepR, (unhide HS).2, if_true]
          have hxb : (xe != 0) = true := by simp [hx]
          have HT := hide hst
          clear hst ho hx
          go_wp2_with fail
          have hA := (unhide HS).1.alloc (.cells #[.int .i64 1, .int .i64 n, .int .i64 size, .float .f64 x, .bool is, .string t] 34)
          refine (rint_any hA.r).mono ?_
          rw [unhide HT]
          rintro e w5 ⟨rfl, hS5, hF5⟩
          have hW5 := hA.reader hS5 hF5
          have hsz5 := hF5.size
          have m0 := (hF5.cell (a := ⟨wr.heap.size, 0, none⟩) (by simp) e1).trans (show _ = some (.int .i64 1) by simp)
          have m1 := (hF5.cell (a := ⟨wr.heap.size, 1, none⟩) (by simp) e1).trans (show _ = some (.int .i64 n) by simp)
          have m2 := (hF5.cell (a := ⟨wr.heap.size, 2, none⟩) (by simp) e1).trans (show _ = some (.int .i64 size) by simp)
          have m3 := (hF5.cell (a := ⟨wr.heap.size, 3, none⟩) (by simp) e1).trans (show _ = some (.float .f64 x) by simp)
          have m4 := (hF5.cell (a := ⟨wr.heap.size, 4, none⟩) (by simp) e1).trans (show _ = some (.bool is) by simp)
          have m5 := (hF5.cell (a := ⟨wr.heap.size, 5, none⟩) (by simp) e1).trans (show _ = some (.string t) by simp)
          have fz := (hF5.frozen (a := ⟨wr.heap.size, 1, none⟩) (by simp) e1).trans (World.frozen?_alloc_new _ _ _ _)
          have HW5 := hide hW5
          clear hA hS5 hF5 hW5 q0 q1 q2 q3 q4 q5 m2 m3 m4 m5
          go_wp2_with fail
          have hW6 := (unhide HW5).set (by omega) e1 e2 e3 e4 1 (.int .i64 0)
          refine (fault_any rp xe s.a _ hW6.r.c3 hW6.r.c4 (RAt.lt hW6.r)).mono ?_
          rintro e w7 ⟨rfl, rfl⟩
          have c1 := (hW6.alloc (.cells #[.int .i64 xe, .int .i64 s.a] 47)).r.c1
          have c1' := ((hW6.alloc (.cells #[.int .i64 xe, .int .i64 s.a] 47)).alloc (.cells #[.int .i64 xe, .int .i64 s.a] 47)).r.c1
          have HW7 := hide ((hW6.alloc (.cells #[.int .i64 xe, .int .i64 s.a] 47)).alloc (.cells #[.int .i64 xe, .int .i64 s.a] 47))
          have hg1 : decide ((0 : Int) ≤ (s.a : Int)) = true := by simp
          have hg2 : decide ((s.a : Int) ≤ (bs.length : Int)) = true := by simp; omega
          have mf : (((w5.setCell ⟨wr.heap.size, 1, none⟩ (.int .i64 0)).alloc (.cells #[.int .i64 xe, .int .i64 s.a] 47)).alloc (.cells #[.int .i64 xe, .int .i64 s.a] 47)).cell? ⟨w5.heap.size + 1, 1, none⟩ = some (.int .i64 s.a) := by simp [go_sem]
          clear hW6 c1
          go_wp2_with fail
          go_quiet ((go_at_call 20; exact Calls.quiet_of_same (at_any' rp s.a _ (by simpa using c1'))))
          go_wp2
          go_ret
          exact ⟨rfl, (unhide HW7).fr.drewN nq⟩
      · cases ho : oFloat bs s.a with
        | ok va =>
          obtain ⟨v, a'⟩ := va
          obtain ⟨r, rfl, hf2, hf3, hf4⟩ := form_float ho
          have hst : stepR s (.float .f64 0) (oFloat bs s.a) = (.float .f64 r, ⟨a', s.a, 0, s.f⟩) := by rw [ho]; simp only [stepR, (unhide HS).2, if_true]
          have HT := hide (And.intro hst (And.intro hf2 (And.intro hf3 hf4)))
          clear hst ho hf2 hf3 hf4
          go_wp2_with fail
          have hA := (unhide HS).1.alloc (.cells #[.int .i64 2, .int .i64 n, .int .i64 size, .float .f64 x, .bool is, .string t] 34)
          refine (rfloat_any hA.r).mono ?_
          rw [(unhide HT).1]
          rintro e w5 ⟨rfl, hS5, hF5⟩
          have hW5 := hA.reader hS5 hF5
          have hsz5 := hF5.size
          have m0 := (hF5.cell (a := ⟨wr.heap.size, 0, none⟩) (by simp) e1).trans (show _ = some (.int .i64 2) by simp)
          have m1 := (hF5.cell (a := ⟨wr.heap.size, 1, none⟩) (by simp) e1).trans (show _ = some (.int .i64 n) by simp)
          have m2 := (hF5.cell (a := ⟨wr.heap.size, 2, none⟩) (by simp) e1).trans (show _ = some (.int .i64 size) by simp)
          have m3 := (hF5.cell (a := ⟨wr.heap.size, 3, none⟩) (by simp) e1).trans (show _ = some (.float .f64 x) by simp)
          have m4 := (hF5.cell (a := ⟨wr.heap.size, 4, none⟩) (by simp) e1).trans (show _ = some (.bool is) by simp)
          have m5 := (hF5.cell (a := ⟨wr.heap.size, 5, none⟩) (by simp) e1).trans (show _ = some (.string t) by simp)
          have fz := (hF5.frozen (a := ⟨wr.heap.size, 3, none⟩) (by simp) e1).trans (World.frozen?_alloc_new _ _ _ _)
          have HW5 := hide hW5
          clear hA hS5 hF5 hW5 q0 q1 q2 q3 q4 q5
          go_wp2_with fail
          have hW6 := (unhide HW5).set (by omega) e1 e2 e3 e4 3 (.float .f64 r)
          refine (fault_any rp 0 s.f _ hW6.r.c3 hW6.r.c4 (RAt.lt hW6.r)).mono ?_
          rintro e w7 ⟨rfl, rfl⟩
          have hpbl := World.block_lt_of_cell? _ _ m0
          have hpbl' : wr.heap.size < w5.heap.size := hpbl
          clear hW6 hpbl
          go_wp2_with fail
          have hW8 := (((unhide HW5).set (by omega) e1 e2 e3 e4 3 (.float .f64 r)).alloc (.cells #[.int .i64 0, .int .i64 s.f] 47)).alloc (.cells #[.int .i64 0, .int .i64 s.f] 47)
          refine (lpf_any hW8.st ⟨2, n, size, r, is, t⟩ (fun bs' hb => by injection hb with hb; rw [← hb, take_len hale]; have hh := (unhide HT).2; exact ⟨by omega, fun hk hsz => by simp at hk⟩) (unhide HQN)).mono ?_
          rintro e w9 ⟨rfl, hP⟩
          obtain ⟨g', hW9⟩ := hW8.writer hP
          have HW9 := hide hW9
          clear hW8 hP hW9 HW5 m0 m1 m2 m3 m4 m5 fz e1 e2 e3 e4
          go_wp2
          refine ⟨⟨i + 1, by omega, by go_num, ⟨a', s.a, 0, s.f⟩, g', ?_, rfl⟩, by simp [intOf]; omega⟩
          have := unhide HW9
          rw [put_take (a' := a') (show Pc.bytes ⟨2, n, size, r, is, t⟩ = _ from (unhide HT).2.1) (unhide HT).2.2.1] at this
          exact this
        | error xe =>
          have hx := oFloat_err ho
          have hst : stepR s (.float .f64 0) (oFloat bs s.a) = (.float .f64 0, ⟨s.a, s.l, xe, s.a⟩) := by rw [ho]; simp only [stepR, (unhide HS).2, if_true]
          have hxb : (xe != 0) = true := by simp [hx]
          have HT := hide hst
          clear hst ho hx
          go_wp2_with fail
          have hA := (unhide HS).1.alloc (.cells #[.int .i64 2, .int .i64 n, .int .i64 size, .float .f64 x, .bool is, .string t] 34)
          refine (rfloat_any hA.r).mono ?_
          rw [unhide HT]
          rintro e w5 ⟨rfl, hS5, hF5⟩
          have hW5 := hA.reader hS5 hF5
          have hsz5 := hF5.size
          have m0 := (hF5.cell (a := ⟨wr.heap.size, 0, none⟩) (by simp) e1).trans (show _ = some (.int .i64 2) by simp)
          have m1 := (hF5.cell (a := ⟨wr.heap.size, 1, none⟩) (by simp) e1).trans (show _ = some (.int .i64 n) by simp)
          have m2 := (hF5.cell (a := ⟨wr.heap.size, 2, none⟩) (by simp) e1).trans (show _ = some (.int .i64 size) by simp)
          have m3 := (hF5.cell (a := ⟨wr.heap.size, 3, none⟩) (by simp) e1).trans (show _ = some (.float .f64 x) by simp)
          have m4 := (hF5.cell (a := ⟨wr.heap.size, 4, none⟩) (by simp) e1).trans (show _ = some (.bool is) by simp)
          have m5 := (hF5.cell (a := ⟨wr.heap.size, 5, none⟩) (by simp) e1).trans (show _ = some (.string t) by simp)
          have fz := (hF5.frozen (a := ⟨wr.heap.size, 3, none⟩) (by simp) e1).trans (World.frozen?_alloc_new _ _ _ _)
          have HW5 := hide hW5
          clear hA hS5 hF5 hW5 q0 q1 q2 q3 q4 q5 m1 m2 m4 m5
          go_wp2_with fail
          have hW6 := (unhide HW5).set (by omega) e1 e2 e3 e4 3 (.float .f64 0)
          refine (fault_any rp xe s.a _ hW6.r.c3 hW6.r.c4 (RAt.lt hW6.r)).mono ?_
          rintro e w7 ⟨rfl, rfl⟩
          have c1 := (hW6.alloc (.cells #[.int .i64 xe, .int .i64 s.a] 47)).r.c1
          have c1' := ((hW6.alloc (.cells #[.int .i64 xe, .int .i64 s.a] 47)).alloc (.cells #[.int .i64 xe, .int .i64 s.a] 47)).r.c1
          have HW7 := hide ((hW6.alloc (.cells #[.int .i64 xe, .int .i64 s.a] 47)).alloc (.cells #[.int .i64 xe, .int .i64 s.a] 47))
          have hg1 : decide ((0 : Int) ≤ (s.a : Int)) = true := by simp
          have hg2 : decide ((s.a : Int) ≤ (bs.length : Int)) = true := by simp; omega
          have mf : (((w5.setCell ⟨wr.heap.size, 3, none⟩ (.float .f64 0)).alloc (.cells #[.int .i64 xe, .int .i64 s.a] 47)).alloc (.cells #[.int .i64 xe, .int .i64 s.a] 47)).cell? ⟨w5.heap.size + 1, 1, none⟩ = some (.int .i64 s.a) := by simp [go_sem]
          clear hW6 c1
          go_wp2_with fail
          go_quiet ((go_at_call 20; exact Calls.quiet_of_same (at_any' rp s.a _ (by simpa using c1'))))
          go_wp2
          go_ret
          exact ⟨rfl, (unhide HW7).fr.drewN nq⟩
      · cases ho : oBool bs s.a with
        | ok va =>
          obtain ⟨v, a'⟩ := va
          obtain ⟨r, rfl, hf2, hf3, hf4⟩ := form_bool ho
          have hst : stepR s (.bool false) (oBool bs s.a) = (.bool r, ⟨a', s.a, 0, s.f⟩) := by rw [ho]; simp only [stepR, (unhide HS).2, if_true]
          have HT := hide (And.intro hst (And.intro hf2 (And.intro hf3 hf4)))
          clear hst ho hf2 hf3 hf4
          go_wp2_with fail
          have hA := (unhide HS).1.alloc (.cells #[.int .i64 3, .int .i64 n, .int .i64 size, .float .f64 x, .bool is, .string t] 34)
          refine (rbool_any hA.r).mono ?_
          rw [(unhide HT).1]
          rintro e w5 ⟨rfl, hS5, hF5⟩
          have hW5 := hA.reader hS5 hF5
          have hsz5 := hF5.size
          have m0 := (hF5.cell (a := ⟨wr.heap.size, 0, none⟩) (by simp) e1).trans (show _ = some (.int .i64 3) by simp)
          have m1 := (hF5.cell (a := ⟨wr.heap.size, 1, none⟩) (by simp) e1).trans (show _ = some (.int .i64 n) by simp)
          have m2 := (hF5.cell (a := ⟨wr.heap.size, 2, none⟩) (by simp) e1).trans (show _ = some (.int .i64 size) by simp)
          have m3 := (hF5.cell (a := ⟨wr.heap.size, 3, none⟩) (by simp) e1).trans (show _ = some (.float .f64 x) by simp)
          have m4 := (hF5.cell (a := ⟨wr.heap.size, 4, none⟩) (by simp) e1).trans (show _ = some (.bool is) by simp)
          have m5 := (hF5.cell (a := ⟨wr.heap.size, 5, none⟩) (by simp) e1).trans (show _ = some (.string t) by simp)
          have fz := (hF5.frozen (a := ⟨wr.heap.size, 4, none⟩) (by simp) e1).trans (World.frozen?_alloc_new _ _ _ _)
          have HW5 := hide hW5
          clear hA hS5 hF5 hW5 q0 q1 q2 q3 q4 q5
          go_wp2_with fail
          have hW6 := (unhide HW5).set (by omega) e1 e2 e3 e4 4 (.bool r)
          refine (fault_any rp 0 s.f _ hW6.r.c3 hW6.r.c4 (RAt.lt hW6.r)).mono ?_
          rintro e w7 ⟨rfl, rfl⟩
          have hpbl := World.block_lt_of_cell? _ _ m0
          have hpbl' : wr.heap.size < w5.heap.size := hpbl
          clear hW6 hpbl
          go_wp2_with fail
          have hW8 := (((unhide HW5).set (by omega) e1 e2 e3 e4 4 (.bool r)).alloc (.cells #[.int .i64 0, .int .i64 s.f] 47)).alloc (.cells #[.int .i64 0, .int .i64 s.f] 47)
          refine (lpf_any hW8.st ⟨3, n, size, x, r, t⟩ (fun bs' hb => by injection hb with hb; rw [← hb, take_len hale]; have hh := (unhide HT).2; exact ⟨by omega, fun hk hsz => by simp at hk⟩) (unhide HQN)).mono ?_
          rintro e w9 ⟨rfl, hP⟩
          obtain ⟨g', hW9⟩ := hW8.writer hP
          have HW9 := hide hW9
          clear hW8 hP hW9 HW5 m0 m1 m2 m3 m4 m5 fz e1 e2 e3 e4
          go_wp2
          refine ⟨⟨i + 1, by omega, by go_num, ⟨a', s.a, 0, s.f⟩, g', ?_, rfl⟩, by simp [intOf]; omega⟩
          have := unhide HW9
          rw [put_take (a' := a') (show Pc.bytes ⟨3, n, size, x, r, t⟩ = _ from (unhide HT).2.1) (unhide HT).2.2.1] at this
          exact this
        | error xe =>
          have hx := oBool_err ho
          have hst : stepR s (.bool false) (oBool bs s.a) = (.bool false, ⟨s.a, s.l, xe, s.a⟩) := by rw [ho]; simp only [stepR, (unhide HS).2, if_true]
          have hxb : (xe != 0) = true := by simp [hx]
          have HT := hide hst
          clear hst ho hx
          go_wp2_with fail
          have hA := (unhide HS).1.alloc (.cells #[.int .i64 3, .int .i64 n, .int .i64 size, .float .f64 x, .bool is, .string t] 34)
          refine (rbool_any hA.r).mono ?_
          rw [unhide HT]
          rintro e w5 ⟨rfl, hS5, hF5⟩
          have hW5 := hA.reader hS5 hF5
          have hsz5 := hF5.size
          have m0 := (hF5.cell (a := ⟨wr.heap.size, 0, none⟩) (by simp) e1).trans (show _ = some (.int .i64 3) by simp)
          have m1 := (hF5.cell (a := ⟨wr.heap.size, 1, none⟩) (by simp) e1).trans (show _ = some (.int .i64 n) by simp)
          have m2 := (hF5.cell (a := ⟨wr.heap.size, 2, none⟩) (by simp) e1).trans (show _ = some (.int .i64 size) by simp)
          have m3 := (hF5.cell (a := ⟨wr.heap.size, 3, none⟩) (by simp) e1).trans (show _ = some (.float .f64 x) by simp)
          have m4 := (hF5.cell (a := ⟨wr.heap.size, 4, none⟩) (by simp) e1).trans (show _ = some (.bool is) by simp)
          have m5 := (hF5.cell (a := ⟨wr.heap.size, 5, none⟩) (by simp) e1).trans (show _ = some (.string t) by simp)
          have fz := (hF5.frozen (a := ⟨wr.heap.size, 4, none⟩) (by simp) e1).trans (World.frozen?_alloc_new _ _ _ _)
          have HW5 := hide hW5
          clear hA hS5 hF5 hW5 q0 q1 q2 q3 q4 q5 m1 m2 m3 m5
          go_wp2_with fail
          have hW6 := (unhide HW5).set (by omega) e1 e2 e3 e4 4 (.bool false)
          refine (fault_any rp xe s.a _ hW6.r.c3 hW6.r.c4 (RAt.lt hW6.r)).mono ?_
          rintro e w7 ⟨rfl, rfl⟩
          have c1 := (hW6.alloc (.cells #[.int .i64 xe, .int .i64 s.a] 47)).r.c1
          have c1' := ((hW6.alloc (.cells #[.int .i64 xe, .int .i64 s.a] 47)).alloc (.cells #[.int .i64 xe, .int .i64 s.a] 47)).r.c1
          have HW7 := hide ((hW6.alloc (.cells #[.int .i64 xe, .int .i64 s.a] 47)).alloc (.cells #[.int .i64 xe, .int .i64 s.a] 47))
          have hg1 : decide ((0 : Int) ≤ (s.a : Int)) = true := by simp
          have hg2 : decide ((s.a : Int) ≤ (bs.length : Int)) = true := by simp; omega
          have mf : (((w5.setCell ⟨wr.heap.size, 4, none⟩ (.bool false)).alloc (.cells #[.int .i64 xe, .int .i64 s.a] 47)).alloc (.cells #[.int .i64 xe, .int .i64 s.a] 47)).cell? ⟨w5.heap.size + 1, 1, none⟩ = some (.int .i64 s.a) := by simp [go_sem]
          clear hW6 c1
          go_wp2_with fail
          go_quiet ((go_at_call 20; exact Calls.quiet_of_same (at_any' rp s.a _ (by simpa using c1'))))
          go_wp2
          go_ret
          exact ⟨rfl, (unhide HW7).fr.drewN nq⟩
      · cases ho : oText bs s.a size with
        | ok va =>
          obtain ⟨v, a'⟩ := va
          obtain ⟨r, rfl, hf2, hf3, hf4, hf5⟩ := form_text ho
          have hst : stepR s (.string ⟨#[]⟩) (oText bs s.a size) = (.string r, ⟨a', s.a, 0, s.f⟩) := by rw [ho]; simp only [stepR, (unhide HS).2, if_true]
          have HT := hide (And.intro hst (And.intro hf2 (And.intro hf3 (And.intro hf4 hf5))))
          clear hst ho hf2 hf3 hf4 hf5
          go_wp2_with fail
          have hA := (unhide HS).1.alloc (.cells #[.int .i64 4, .int .i64 n, .int .i64 size, .float .f64 x, .bool is, .string t] 34)
          refine (rtext_any hA.r size).mono ?_
          rw [(unhide HT).1]
          rintro e w5 ⟨rfl, hS5, hF5⟩
          have hW5 := hA.reader hS5 hF5
          have hsz5 := hF5.size
          have m0 := (hF5.cell (a := ⟨wr.heap.size, 0, none⟩) (by simp) e1).trans (show _ = some (.int .i64 4) by simp)
          have m1 := (hF5.cell (a := ⟨wr.heap.size, 1, none⟩) (by simp) e1).trans (show _ = some (.int .i64 n) by simp)
          have m2 := (hF5.cell (a := ⟨wr.heap.size, 2, none⟩) (by simp) e1).trans (show _ = some (.int .i64 size) by simp)
          have m3 := (hF5.cell (a := ⟨wr.heap.size, 3, none⟩) (by simp) e1).trans (show _ = some (.float .f64 x) by simp)
          have m4 := (hF5.cell (a := ⟨wr.heap.size, 4, none⟩) (by simp) e1).trans (show _ = some (.bool is) by simp)
          have m5 := (hF5.cell (a := ⟨wr.heap.size, 5, none⟩) (by simp) e1).trans (show _ = some (.string t) by simp)
          have fz := (hF5.frozen (a := ⟨wr.heap.size, 5, none⟩) (by simp) e1).trans (World.frozen?_alloc_new _ _ _ _)
          have HW5 := hide hW5
          clear hA hS5 hF5 hW5 q0 q1 q2 q3 q4 q5
          go_wp2_with fail
          have hW6 := (unhide HW5).set (by omega) e1 e2 e3 e4 5 (.string r)
          refine (fault_any rp 0 s.f _ hW6.r.c3 hW6.r.c4 (RAt.lt hW6.r)).mono ?_
          rintro e w7 ⟨rfl, rfl⟩
          have hpbl := World.block_lt_of_cell? _ _ m0
          have hpbl' : wr.heap.size < w5.heap.size := hpbl
          clear hW6 hpbl
          go_wp2_with fail
          have hW8 := (((unhide HW5).set (by omega) e1 e2 e3 e4 5 (.string r)).alloc (.cells #[.int .i64 0, .int .i64 s.f] 47)).alloc (.cells #[.int .i64 0, .int .i64 s.f] 47)
          refine (lpf_any hW8.st ⟨4, n, size, x, is, r⟩ (fun bs' hb => by injection hb with hb; rw [← hb, take_len hale]; have hh := (unhide HT).2; exact ⟨by omega, fun hk hsz => by have hh2 := hh.2.2.2; show s.a + 2 + r.size ≤ _; omega⟩) (unhide HQN)).mono ?_
          rintro e w9 ⟨rfl, hP⟩
          obtain ⟨g', hW9⟩ := hW8.writer hP
          have HW9 := hide hW9
          clear hW8 hP hW9 HW5 m0 m1 m2 m3 m4 m5 fz e1 e2 e3 e4
          go_wp2
          refine ⟨⟨i + 1, by omega, by go_num, ⟨a', s.a, 0, s.f⟩, g', ?_, rfl⟩, by simp [intOf]; omega⟩
          have := unhide HW9
          rw [put_take (a' := a') (show Pc.bytes ⟨4, n, size, x, is, r⟩ = _ from (unhide HT).2.1) (unhide HT).2.2.1] at this
          exact this
        | error xe =>
          have hx := oText_err ho
          have hst : stepR s (.string ⟨#[]⟩) (oText bs s.a size) = (.string ⟨#[]⟩, ⟨s.a, s.l, xe, s.a⟩) := by rw [ho]; simp only [stepR, (unhide HS).2, if_true]
          have hxb : (xe != 0) = true := by simp [hx]
          have HT := hide hst
          clear hst ho hx
          go_wp2_with fail
          have hA := (unhide HS).1.alloc (.cells #[.int .i64 4, .int .i64 n, .int .i64 size, .float .f64 x, .bool is, .string t] 34)
          refine (rtext_any hA.r size).mono ?_
          rw [unhide HT]
          rintro e w5 ⟨rfl, hS5, hF5⟩
          have hW5 := hA.reader hS5 hF5
          have hsz5 := hF5.size
          have m0 := (hF5.cell (a := ⟨wr.heap.size, 0, none⟩) (by simp) e1).trans (show _ = some (.int .i64 4) by simp)
          have m1 := (hF5.cell (a := ⟨wr.heap.size, 1, none⟩) (by simp) e1).trans (show _ = some (.int .i64 n) by simp)
          have m2 := (hF5.cell (a := ⟨wr.heap.size, 2, none⟩) (by simp) e1).trans (show _ = some (.int .i64 size) by simp)
          have m3 := (hF5.cell (a := ⟨wr.heap.size, 3, none⟩) (by simp) e1).trans (show _ = some (.float .f64 x) by simp)
          have m4 := (hF5.cell (a := ⟨wr.heap.size, 4, none⟩) (by simp) e1).trans (show _ = some (.bool is) by simp)
          have m5 := (hF5.cell (a := ⟨wr.heap.size, 5, none⟩) (by simp) e1).trans (show _ = some (.string t) by simp)
          have fz := (hF5.frozen (a := ⟨wr.heap.size, 5, none⟩) (by simp) e1).trans (World.frozen?_alloc_new _ _ _ _)
          have HW5 := hide hW5
          clear hA hS5 hF5 hW5 q0 q1 q2 q3 q4 q5 m1 m2 m3 m4
          go_wp2_with fail
          have hW6 := (unhide HW5).set (by omega) e1 e2 e3 e4 5 (.string ⟨#[]⟩)
          refine (fault_any rp xe s.a _ hW6.r.c3 hW6.r.c4 (RAt.lt hW6.r)).mono ?_
          rintro e w7 ⟨rfl, rfl⟩
          have c1 := (hW6.alloc (.cells #[.int .i64 xe, .int .i64 s.a] 47)).r.c1
          have c1' := ((hW6.alloc (.cells #[.int .i64 xe, .int .i64 s.a] 47)).alloc (.cells #[.int .i64 xe, .int .i64 s.a] 47)).r.c1
          have HW7 := hide ((hW6.alloc (.cells #[.int .i64 xe, .int .i64 s.a] 47)).alloc (.cells #[.int .i64 xe, .int .i64 s.a] 47))
          have hg1 : decide ((0 : Int) ≤ (s.a : Int)) = true := by simp
          have hg2 : decide ((s.a : Int) ≤ (bs.length : Int)) = true := by simp; omega
          have mf : (((w5.setCell ⟨wr.heap.size, 5, none⟩ (.string ⟨#[]⟩)).alloc (.cells #[.int .i64 xe, .int .i64 s.a] 47)).alloc (.cells #[.int .i64 xe, .int .i64 s.a] 47)).cell? ⟨w5.heap.size + 1, 1, none⟩ = some (.int .i64 s.a) := by simp [go_sem]
          clear hW6 c1
          go_wp2_with fail
          go_quiet ((go_at_call 20; exact Calls.quiet_of_same (at_any' rp s.a _ (by simpa using c1'))))
          go_wp2
          go_ret
          exact ⟨rfl, (unhide HW7).fr.drewN nq⟩
      · cases ho : oFixed bs s.a size with
        | ok va =>
          obtain ⟨v, a'⟩ := va
          obtain ⟨r, rfl, hf2, hf3, hf4, hf5⟩ := form_fixed ho
          have hst : stepR s (.string ⟨#[]⟩) (oFixed bs s.a size) = (.string r, ⟨a', s.a, 0, s.f⟩) := by rw [ho]; simp only [stepR, (unhide HS).2, if_true]
          have HT := hide (And.intro hst (And.intro hf2 (And.intro hf3 (And.intro hf4 hf5))))
          clear hst ho hf2 hf3 hf4 hf5
          go_wp2_with fail
          have hA := (unhide HS).1.alloc (.cells #[.int .i64 5, .int .i64 n, .int .i64 size, .float .f64 x, .bool is, .string t] 34)
          refine (rfixed_any hA.r size).mono ?_
          rw [(unhide HT).1]
          rintro e w5 ⟨rfl, hS5, hF5⟩
          have hW5 := hA.reader hS5 hF5
          have hsz5 := hF5.size
          have m0 := (hF5.cell (a := ⟨wr.heap.size, 0, none⟩) (by simp) e1).trans (show _ = some (.int .i64 5) by simp)
          have m1 := (hF5.cell (a := ⟨wr.heap.size, 1, none⟩) (by simp) e1).trans (show _ = some (.int .i64 n) by simp)
          have m2 := (hF5.cell (a := ⟨wr.heap.size, 2, none⟩) (by simp) e1).trans (show _ = some (.int .i64 size) by simp)
          have m3 := (hF5.cell (a := ⟨wr.heap.size, 3, none⟩) (by simp) e1).trans (show _ = some (.float .f64 x) by simp)
          have m4 := (hF5.cell (a := ⟨wr.heap.size, 4, none⟩) (by simp) e1).trans (show _ = some (.bool is) by simp)
          have m5 := (hF5.cell (a := ⟨wr.heap.size, 5, none⟩) (by simp) e1).trans (show _ = some (.string t) by simp)
          have fz := (hF5.frozen (a := ⟨wr.heap.size, 5, none⟩) (by simp) e1).trans (World.frozen?_alloc_new _ _ _ _)
          have HW5 := hide hW5
          clear hA hS5 hF5 hW5 q0 q1 q2 q3 q4 q5
          go_wp2_with fail
          have hW6 := (unhide HW5).set (by omega) e1 e2 e3 e4 5 (.string r)
          refine (fault_any rp 0 s.f _ hW6.r.c3 hW6.r.c4 (RAt.lt hW6.r)).mono ?_
          rintro e w7 ⟨rfl, rfl⟩
          have hpbl := World.block_lt_of_cell? _ _ m0
          have hpbl' : wr.heap.size < w5.heap.size := hpbl
          clear hW6 hpbl
          go_wp2_with fail
          have hW8 := (((unhide HW5).set (by omega) e1 e2 e3 e4 5 (.string r)).alloc (.cells #[.int .i64 0, .int .i64 s.f] 47)).alloc (.cells #[.int .i64 0, .int .i64 s.f] 47)
          refine (lpf_any hW8.st ⟨5, n, size, x, is, r⟩ (fun bs' hb => by injection hb with hb; rw [← hb, take_len hale]; have hh := (unhide HT).2; exact ⟨by omega, fun hk hsz => by have hh2 := hh.2.2.2; show s.a + 2 + r.size ≤ _; omega⟩) (unhide HQN)).mono ?_
          rintro e w9 ⟨rfl, hP⟩
          obtain ⟨g', hW9⟩ := hW8.writer hP
          have HW9 := hide hW9
          clear hW8 hP hW9 HW5 m0 m1 m2 m3 m4 m5 fz e1 e2 e3 e4
          go_wp2
          refine ⟨⟨i + 1, by omega, by go_num, ⟨a', s.a, 0, s.f⟩, g', ?_, rfl⟩, by simp [intOf]; omega⟩
          have := unhide HW9
          rw [put_take (a' := a') (show Pc.bytes ⟨5, n, size, x, is, r⟩ = _ from (unhide HT).2.1) (unhide HT).2.2.1] at this
          exact this
        | error xe =>
          have hx := oFixed_err ho
          have hst : stepR s (.string ⟨#[]⟩) (oFixed bs s.a size) = (.string ⟨#[]⟩, ⟨s.a, s.l, xe, s.a⟩) := by rw [ho]; simp only [stepR, (unhide HS).2, if_true]
          have hxb : (xe != 0) = true := by simp [hx]
          have HT := hide hst
          clear hst ho hx
          go_wp2_with fail
          have hA := (unhide HS).1.alloc (.cells #[.int .i64 5, .int .i64 n, .int .i64 size, .float .f64 x, .bool is, .string t] 34)
          refine (rfixed_any hA.r size).mono ?_
          rw [unhide HT]
          rintro e w5 ⟨rfl, hS5, hF5⟩
          have hW5 := hA.reader hS5 hF5
          have hsz5 := hF5.size
          have m0 := (hF5.cell (a := ⟨wr.heap.size, 0, none⟩) (by simp) e1).trans (show _ = some (.int .i64 5) by simp)
          have m1 := (hF5.cell (a := ⟨wr.heap.size, 1, none⟩) (by simp) e1).trans (show _ = some (.int .i64 n) by simp)
          have m2 := (hF5.cell (a := ⟨wr.heap.size, 2, none⟩) (by simp) e1).trans (show _ = some (.int .i64 size) by simp)
          have m3 := (hF5.cell (a := ⟨wr.heap.size, 3, none⟩) (by simp) e1).trans (show _ = some (.float .f64 x) by simp)
          have m4 := (hF5.cell (a := ⟨wr.heap.size, 4, none⟩) (by simp) e1).trans (show _ = some (.bool is) by simp)
          have m5 := (hF5.cell (a := ⟨wr.heap.size, 5, none⟩) (by simp) e1).trans (show _ = some (.string t) by simp)
          have fz := (hF5.frozen (a := ⟨wr.heap.size, 5, none⟩) (by simp) e1).trans (World.frozen?_alloc_new _ _ _ _)
          have HW5 := hide hW5
          clear hA hS5 hF5 hW5 q0 q1 q2 q3 q4 q5 m1 m2 m3 m4
          go_wp2_with fail
          have hW6 := (unhide HW5).set (by omega) e1 e2 e3 e4 5 (.string ⟨#[]⟩)
          refine (fault_any rp xe s.a _ hW6.r.c3 hW6.r.c4 (RAt.lt hW6.r)).mono ?_
          rintro e w7 ⟨rfl, rfl⟩
          have c1 := (hW6.alloc (.cells #[.int .i64 xe, .int .i64 s.a] 47)).r.c1
          have c1' := ((hW6.alloc (.cells #[.int .i64 xe, .int .i64 s.a] 47)).alloc (.cells #[.int .i64 xe, .int .i64 s.a] 47)).r.c1
          have HW7 := hide ((hW6.alloc (.cells #[.int .i64 xe, .int .i64 s.a] 47)).alloc (.cells #[.int .i64 xe, .int .i64 s.a] 47))
          have hg1 : decide ((0 : Int) ≤ (s.a : Int)) = true := by simp
          have hg2 : decide ((s.a : Int) ≤ (bs.length : Int)) = true := by simp; omega
          have mf : (((w5.setCell ⟨wr.heap.size, 5, none⟩ (.string ⟨#[]⟩)).alloc (.cells #[.int .i64 xe, .int .i64 s.a] 47)).alloc (.cells #[.int .i64 xe, .int .i64 s.a] 47)).cell? ⟨w5.heap.size + 1, 1, none⟩ = some (.int .i64 s.a) := by simp [go_sem]
          clear hW6 c1
          go_wp2_with fail
          go_quiet ((go_at_call 20; exact Calls.quiet_of_same (at_any' rp s.a _ (by simpa using c1'))))
          go_wp2
          go_ret
          exact ⟨rfl, (unhide HW7).fr.drewN nq⟩
      · cases ho : oCount bs s.a size with
        | ok va =>
          obtain ⟨v, a'⟩ := va
          obtain ⟨r, rfl, hf1, hf2, hf3, hf4⟩ := form_count ho
          have hst : stepR s (.int .i64 0) (oCount bs s.a size) = (.int .i64 r, ⟨a', s.a, 0, s.f⟩) := by rw [ho]; simp only [stepR, (unhide HS).2, if_true]
          have HT := hide (And.intro hst (And.intro hf1 (And.intro hf2 (And.intro hf3 hf4))))
          clear hst ho hf1 hf2 hf3 hf4
          go_wp2_with fail
          have hA := (unhide HS).1.alloc (.cells #[.int .i64 6, .int .i64 n, .int .i64 size, .float .f64 x, .bool is, .string t] 34)
          refine (rcount_any hA.r size).mono ?_
          rw [(unhide HT).1]
          rintro e w5 ⟨rfl, hS5, hF5⟩
          have hW5 := hA.reader hS5 hF5
          have hsz5 := hF5.size
          have m0 := (hF5.cell (a := ⟨wr.heap.size, 0, none⟩) (by simp) e1).trans (show _ = some (.int .i64 6) by simp)
          have m1 := (hF5.cell (a := ⟨wr.heap.size, 1, none⟩) (by simp) e1).trans (show _ = some (.int .i64 n) by simp)
          have m2 := (hF5.cell (a := ⟨wr.heap.size, 2, none⟩) (by simp) e1).trans (show _ = some (.int .i64 size) by simp)
          have m3 := (hF5.cell (a := ⟨wr.heap.size, 3, none⟩) (by simp) e1).trans (show _ = some (.float .f64 x) by simp)
          have m4 := (hF5.cell (a := ⟨wr.heap.size, 4, none⟩) (by simp) e1).trans (show _ = some (.bool is) by simp)
          have m5 := (hF5.cell (a := ⟨wr.heap.size, 5, none⟩) (by simp) e1).trans (show _ = some (.string t) by simp)
          have fz := (hF5.frozen (a := ⟨wr.heap.size, 1, none⟩) (by simp) e1).trans (World.frozen?_alloc_new _ _ _ _)
          have HW5 := hide hW5
          clear hA hS5 hF5 hW5 q0 q1 q2 q3 q4 q5
          go_wp2_with fail
          have hW6 := (unhide HW5).set (by omega) e1 e2 e3 e4 1 (.int .i64 r)
          refine (fault_any rp 0 s.f _ hW6.r.c3 hW6.r.c4 (RAt.lt hW6.r)).mono ?_
          rintro e w7 ⟨rfl, rfl⟩
          have hpbl := World.block_lt_of_cell? _ _ m0
          have hpbl' : wr.heap.size < w5.heap.size := hpbl
          clear hW6 hpbl
          go_wp2_with fail
          have hW8 := (((unhide HW5).set (by omega) e1 e2 e3 e4 1 (.int .i64 r)).alloc (.cells #[.int .i64 0, .int .i64 s.f] 47)).alloc (.cells #[.int .i64 0, .int .i64 s.f] 47)
          refine (lpf_any hW8.st ⟨6, r, size, x, is, t⟩ (fun bs' hb => by injection hb with hb; rw [← hb, take_len hale]; have hh := (unhide HT).2; exact ⟨by omega, fun hk hsz => by simp at hk⟩) (unhide HT).2.1).mono ?_
          rintro e w9 ⟨rfl, hP⟩
          obtain ⟨g', hW9⟩ := hW8.writer hP
          have HW9 := hide hW9
          clear hW8 hP hW9 HW5 m0 m1 m2 m3 m4 m5 fz e1 e2 e3 e4
          go_wp2
          refine ⟨⟨i + 1, by omega, by go_num, ⟨a', s.a, 0, s.f⟩, g', ?_, rfl⟩, by simp [intOf]; omega⟩
          have := unhide HW9
          rw [put_take (a' := a') (show Pc.bytes ⟨6, r, size, x, is, t⟩ = _ from (unhide HT).2.2.1) (unhide HT).2.2.2.1] at this
          exact this
        | error xe =>
          have hx := oCount_err ho
          have hst : stepR s (.int .i64 0) (oCount bs s.a size) = (.int .i64 0, ⟨s.a, s.l, xe, s.a⟩) := by rw [ho]; simp only [stepR, (unhide HS).2, if_true]
          have hxb : (xe != 0) = true := by simp [hx]
          have HT := hide hst
          clear hst ho hx
          go_wp2_with fail
          have hA := (unhide HS).1.alloc (.cells #[.int .i64 6, .int .i64 n, .int .i64 size, .float .f64 x, .bool is, .string t] 34)
          refine (rcount_any hA.r size).mono ?_
          rw [unhide HT]
          rintro e w5 ⟨rfl, hS5, hF5⟩
          have hW5 := hA.reader hS5 hF5
          have hsz5 := hF5.size
          have m0 := (hF5.cell (a := ⟨wr.heap.size, 0, none⟩) (by simp) e1).trans (show _ = some (.int .i64 6) by simp)
          have m1 := (hF5.cell (a := ⟨wr.heap.size, 1, none⟩) (by simp) e1).trans (show _ = some (.int .i64 n) by simp)
          have m2 := (hF5.cell (a := ⟨wr.heap.size, 2, none⟩) (by simp) e1).trans (show _ = some (.int .i64 size) by simp)
          have m3 := (hF5.cell (a := ⟨wr.heap.size, 3, none⟩) (by simp) e1).trans (show _ = some (.float .f64 x) by simp)
          have m4 := (hF5.cell (a := ⟨wr.heap.size, 4, none⟩) (by simp) e1).trans (show _ = some (.bool is) by simp)
          have m5 := (hF5.cell (a := ⟨wr.heap.size, 5, none⟩) (by simp) e1).trans (show _ = some (.string t) by simp)
          have fz := (hF5.frozen (a := ⟨wr.heap.size, 1, none⟩) (by simp) e1).trans (World.frozen?_alloc_new _ _ _ _)
          have HW5 := hide hW5
          clear hA hS5 hF5 hW5 q0 q1 q2 q3 q4 q5 m2 m3 m4 m5
          go_wp2_with fail
          have hW6 := (unhide HW5).set (by omega) e1 e2 e3 e4 1 (.int .i64 0)
          refine (fault_any rp xe s.a _ hW6.r.c3 hW6.r.c4 (RAt.lt hW6.r)).mono ?_
          rintro e w7 ⟨rfl, rfl⟩
          have c1 := (hW6.alloc (.cells #[.int .i64 xe, .int .i64 s.a] 47)).r.c1
          have c1' := ((hW6.alloc (.cells #[.int .i64 xe, .int .i64 s.a] 47)).alloc (.cells #[.int .i64 xe, .int .i64 s.a] 47)).r.c1
          have HW7 := hide ((hW6.alloc (.cells #[.int .i64 xe, .int .i64 s.a] 47)).alloc (.cells #[.int .i64 xe, .int .i64 s.a] 47))
          have hg1 : decide ((0 : Int) ≤ (s.a : Int)) = true := by simp
          have hg2 : decide ((s.a : Int) ≤ (bs.length : Int)) = true := by simp; omega
          have mf : (((w5.setCell ⟨wr.heap.size, 1, none⟩ (.int .i64 0)).alloc (.cells #[.int .i64 xe, .int .i64 s.a] 47)).alloc (.cells #[.int .i64 xe, .int .i64 s.a] 47)).cell? ⟨w5.heap.size + 1, 1, none⟩ = some (.int .i64 s.a) := by simp [go_sem]
          clear hW6 c1
          go_wp2_with fail
          go_quiet ((go_at_call 20; exact Calls.quiet_of_same (at_any' rp s.a _ (by simpa using c1'))))
          go_wp2
          go_ret
          exact ⟨rfl, (unhide HW7).fr.drewN nq⟩
    · have hale : s.a ≤ bs.length := (unhide HS).1.r.le
      have htl : (bs.take s.a).length = s.a := take_len hale
      go_wp2_with fail
      refine (bytes_ok (unhide HS).1.st (by omega)).mono ?_
      rintro e w5 ⟨v, g', rfl, hrow, hF, hg⟩
      have hcv1 : ∀ k, (convert 27 9 v).run Try.prog (w5.drewN k) = .ok (.string ⟨(bs.take s.a).toArray⟩) (w5.drewN k) := fun k => conv_later hrow ((Fr.refl _ _).drewN k)
      have hfr5 := (unhide HS).1.fr.trans hF (fun _ _ t => t)
      have hcv2 : ∀ k c, (convert 27 9 (.slice ao s.a c)).run Try.prog (w5.drewN k) = .ok (.string ⟨(bs.take s.a).toArray⟩) (w5.drewN k) := fun k c => conv_arg ((unhide HB).later (hfr5.drewN k)) s.a c hale
      obtain ⟨vo, vc, rfl, _⟩ := hrow.shape
      rw [htl] at hcv1 ⊢
      have c1 := (RAt.frame (unhide HS).1.r hF (fun t => t) (fun t => t)).c1
      have HF5 := hide hfr5
      clear hrow hF hg hfr5 HS HL HB HR
      go_wp2_with fail
      refine (at_any rp s.a _ c1).mono ?_
      rintro e w6 ⟨rfl, rfl⟩
      have hs0 : ((s.a : Int) == (s.a : Int)) = true := by simp
      have hs1 : decide ((s.a : Int) ≤ (bs.length : Int)) = true := by simp; omega
      have hs2 : (s.a : Int) ≤ (cap : Int) := by omega
      go_wp2_with fail
      go_quiet (fail)
      go_wp2
      go_ret
      exact ⟨rfl, (unhide HF5).drewN nq⟩

end Go.Proofs.Ytdbmojiplfkniaa
