/- The walk of the law WireFault. -/
import Derived.Test.YtdbmojiplfkniaaC3
import Derived.Deep.RegionWith
namespace Go.Proofs.Ytdbmojiplfkniaa
open Go.RowKit

/-- The pieces that came in. -/
def LAt (w : World) (lo : Option Addr) (ps : List Pc) : Prop :=
  (0 < ps.length → ∃ b off, lo = some ⟨b, off, none⟩ ∧ ∀ j (hj : j < ps.length) i, i < 6 → w.cell? ⟨b, off + j * 6 + i, none⟩ = (ps[j].vals)[i]?) ∧ ps.length ≤ 140737488355328 ∧
  ∀ q ∈ ps, q.n ≤ 9223372036854775807

/-- The bytes that came in. -/
def BAt (w : World) (ao : Option Addr) (cap : Nat) (bs : List UInt8) : Prop :=
  (ao = none → bs.length = 0 ∧ cap = 0) ∧ (0 < bs.length → ∃ b off, ao = some ⟨b, off, none⟩ ∧ ∀ j (hj : j < bs.length), w.cell? ⟨b, off + j, none⟩ = some (.int .u8 (bs[j].toNat))) ∧ bs.length ≤ 140737488355328

theorem BAt.later {w w' : World} {ao : Option Addr} {cap : Nat} {bs : List UInt8} (h : BAt w ao cap bs) (hf : Fr (fun _ => False) w w') : BAt w' ao cap bs := by
  refine ⟨h.1, fun h0 => ?_, h.2.2⟩
  obtain ⟨b, off, e, hc⟩ := h.2.1 h0
  exact ⟨b, off, e, fun j hj => (hf.cell (a := ⟨b, off + j, none⟩) (World.block_lt_of_cell? _ _ (hc j hj)) (fun t => t)).trans (hc j hj)⟩

theorem LAt.cells {w w' : World} {b off : Nat} {ps : List Pc} (h : LAt w (some ⟨b, off, none⟩) ps) (hf : Fr (fun _ => False) w w') (j : Nat) (hj : j < ps.length) :
    w'.cell? ⟨b, off + j * 6, none⟩ = some (.int .i64 ps[j].kind) ∧ w'.cell? ⟨b, off + j * 6 + 1, none⟩ = some (.int .i64 ps[j].n) ∧ w'.cell? ⟨b, off + j * 6 + 2, none⟩ = some (.int .i64 ps[j].size) ∧
    w'.cell? ⟨b, off + j * 6 + 3, none⟩ = some (.float .f64 ps[j].x) ∧ w'.cell? ⟨b, off + j * 6 + 4, none⟩ = some (.bool ps[j].is) ∧ w'.cell? ⟨b, off + j * 6 + 5, none⟩ = some (.string ps[j].s) := by
  obtain ⟨b', off', e, hc⟩ := h.1 (by omega)
  injection e with e
  injection e with e1 e2
  subst e1 e2
  have key : ∀ i v, i < 6 → (ps[j].vals)[i]? = some v → w'.cell? ⟨b, off + j * 6 + i, none⟩ = some v := fun i v hi hv => by
    have h1 := hc j hj i hi
    rw [hv] at h1
    exact (hf.cell (a := ⟨b, off + j * 6 + i, none⟩) (World.block_lt_of_cell? _ _ h1) (fun t => t)).trans h1
  exact ⟨key 0 _ (by omega) rfl, key 1 _ (by omega) rfl, key 2 _ (by omega) rfl, key 3 _ (by omega) rfl, key 4 _ (by omega) rfl, key 5 _ (by omega) rfl⟩

theorem ROwn.alloc {w wk : World} {p g : Nat} {bs : List UInt8} {s : RS} (h : ROwn w wk p g bs s) (o : Obj) : ROwn w (wk.alloc o) p g bs s :=
  ⟨h.1.alloc o, h.2.1, h.2.2.1, RAt.alloc h.2.2.2 o⟩
theorem ROwn.drew {w wk : World} {p g : Nat} {bs : List UInt8} {s : RS} (h : ROwn w wk p g bs s) : ROwn w wk.drew p g bs s :=
  ⟨h.1.drew, h.2.1, h.2.2.1, RAt.drew h.2.2.2⟩

theorem field_code (c f : Int) (w : World) : (Instr.field 47 (.agg #[.int .i64 c, .int .i64 f]) 0).run Try.prog w = .ok (.int .i64 c) w := by kernel_rfl

theorem stepP_bad {bs : List UInt8} {s : RS} (hc : s.c ≠ 0) (q : Pc) : stepP bs s q = s := by
  unfold stepP
  repeat' split
  all_goals first | rfl | rw [stepR_bad hc]

theorem stepP_other {bs : List UInt8} {s : RS} {q : Pc} (hk : ¬ (0 ≤ q.kind ∧ q.kind ≤ 6)) : stepP bs s q = s := by
  unfold stepP
  rw [if_neg (by omega), if_neg (by omega), if_neg (by omega), if_neg (by omega), if_neg (by omega), if_neg (by omega), if_neg (by omega)]

theorem stepR_l {s : RS} {z : Value} {o : Except Int (Value × Nat)} (hc : s.c = 0) (he : ∀ x, o = .error x → x ≠ 0) (h : (stepR s z o).2.c = 0) : (stepR s z o).2.l = s.a := by
  cases o with
  | ok va => obtain ⟨v, a'⟩ := va; simp [stepR, hc]
  | error x => simp [stepR, hc] at h; exact absurd h (he x rfl)

theorem oNumber_err {bs : List UInt8} {a : Nat} {size : Int} {x : Int} (h : oNumber bs a size = .error x) : x ≠ 0 := by
  unfold oNumber at h; repeat' split at h
  all_goals first | (injection h with h; omega) | cases h
theorem oInt_err {bs : List UInt8} {a : Nat} {x : Int} (h : oInt bs a = .error x) : x ≠ 0 := by
  unfold oInt at h; repeat' split at h
  all_goals first | (injection h with h; omega) | cases h
theorem oFloat_err {bs : List UInt8} {a : Nat} {x : Int} (h : oFloat bs a = .error x) : x ≠ 0 := by
  unfold oFloat at h; repeat' split at h
  all_goals first | (injection h with h; omega) | cases h
theorem oBool_err {bs : List UInt8} {a : Nat} {x : Int} (h : oBool bs a = .error x) : x ≠ 0 := by
  unfold oBool at h; repeat' split at h
  all_goals first | (injection h with h; omega) | cases h
theorem oText_err {bs : List UInt8} {a : Nat} {most : Int} {x : Int} (h : oText bs a most = .error x) : x ≠ 0 := by
  unfold oText at h; repeat' split at h
  all_goals first | (injection h with h; omega) | cases h
theorem oFixed_err {bs : List UInt8} {a : Nat} {size : Int} {x : Int} (h : oFixed bs a size = .error x) : x ≠ 0 := by
  unfold oFixed at h; repeat' split at h
  all_goals first | (injection h with h; omega) | cases h
theorem oCount_err {bs : List UInt8} {a : Nat} {most : Int} {x : Int} (h : oCount bs a most = .error x) : x ≠ 0 := by
  unfold oCount at h; repeat' split at h
  all_goals first | (injection h with h; omega) | cases h

theorem stepP_l {bs : List UInt8} {s : RS} {q : Pc} (hc : s.c = 0) (hk : 0 ≤ q.kind ∧ q.kind ≤ 6) (h : (stepP bs s q).c = 0) : (stepP bs s q).l = s.a := by
  have hk2 : q.kind = 0 ∨ q.kind = 1 ∨ q.kind = 2 ∨ q.kind = 3 ∨ q.kind = 4 ∨ q.kind = 5 ∨ q.kind = 6 := by omega
  unfold stepP at h ⊢
  rcases hk2 with hk2 | hk2 | hk2 | hk2 | hk2 | hk2 | hk2 <;> simp only [hk2] at h ⊢
  · exact stepR_l hc (fun x => oNumber_err) h
  · exact stepR_l hc (fun x => oInt_err) h
  · exact stepR_l hc (fun x => oFloat_err) h
  · exact stepR_l hc (fun x => oBool_err) h
  · exact stepR_l hc (fun x => oText_err) h
  · exact stepR_l hc (fun x => oFixed_err) h
  · exact stepR_l hc (fun x => oCount_err) h

set_option maxHeartbeats 2000000 in
set_option maxRecDepth 100000 in
theorem fault_walk (w : World) (ao : Option Addr) (cap : Nat) (bs : List UInt8) (hB : BAt w ao cap bs) (lo : Option Addr) (lc : Nat) (ps : List Pc) (hL : LAt w lo ps) (x : Int) :
    Calls Try.prog 8 #[.slice ao bs.length cap, .slice lo ps.length lc, .int .i64 x] w fun e w' => e = .returned (.bool true) ∧ Fr (fun _ => False) w w' := by
  have hfield := field_code
  have HB := hide hB
  have HL := hide hL
  have hpl := hL.2.1
  clear hB hL
  go_enter Try.func8, Try.ntmps8
  go_wp2_with fail
  refine (awake_any _).mono ?_
  rintro e w1 ⟨rfl, hF1⟩
  have HF1 := hide hF1
  clear hF1
  go_wp2_with fail
  have hb1 := (unhide HB).later (unhide HF1)
  refine (newreader_any _ ao cap bs hb1.1 hb1.2.1 hb1.2.2).mono ?_
  rintro e w2 ⟨p, g, rfl, hR, hF2, hg1, hg2⟩
  have hR1 : ROwn w w2 p g bs ⟨0, 0, 0, 0⟩ := ⟨(unhide HF1).trans hF2 (fun _ _ t => t), Nat.le_trans (unhide HF1).size hg2, Nat.le_trans (unhide HF1).size hg1, hR⟩
  have HR := hide hR1
  clear hR1 hR hF2 hg1 hg2 hb1 HF1 HB
  go_wp2
  go_loopw [9, 10] (fun bv iv wr => ∃ i : Nat, i ≤ ps.length ∧ iv = .int .i64 i ∧ ∃ bg : Int, bv = .int .i64 bg ∧ ∃ s : RS, Hid (ROwn w wr p g bs s ∧ (s.c = 0 → bg = s.l))) (fun _ iv _ => ps.length - (intOf iv).toNat)
  case atStart => exact ⟨0, Nat.zero_le _, rfl, 0, rfl, ⟨0, 0, 0, 0⟩, unhide HR, fun _ => rfl⟩
  case round =>
    obtain ⟨i, hi, rfl, bg, rfl, s, HS⟩ := hrel
    by_cases hlt : i < ps.length
    · have c1 := (unhide HS).1.2.2.2.c1
      have c3 := (unhide HS).1.2.2.2.c3
      have c4 := (unhide HS).1.2.2.2.c4
      have hpw := (unhide HS).1.2.2.2.lt
      obtain ⟨b, off, rfl⟩ : ∃ b off, lo = some ⟨b, off, none⟩ := by
        obtain ⟨b, off, e, _⟩ := (unhide HL).1 (by omega)
        exact ⟨b, off, e⟩
      go_wp2_with fail
      refine (at_any p s.a _ c1).mono ?_
      rintro e w3 ⟨rfl, rfl⟩
      go_wp2_with fail
      refine (fault_any p s.c s.f _ c3 c4 hpw).mono ?_
      rintro e w3 ⟨rfl, rfl⟩
      obtain ⟨q0, q1, q2, q3, q4, q5⟩ := (unhide HL).cells ((((unhide HS).1.1).alloc (.cells #[.int .i64 s.c, .int .i64 s.f] 47)).alloc (.cells #[.int .i64 s.c, .int .i64 s.f] 47)) i hlt
      generalize ps[i] = q at q0 q1 q2 q3 q4 q5
      go_wp2_with fail
      have hRA : ROwn w ((wr.alloc (.cells #[.int .i64 s.c, .int .i64 s.f] 47)).alloc (.cells #[.int .i64 s.c, .int .i64 s.f] 47)) p g bs s :=
        ⟨((unhide HS).1.1.alloc _).alloc _, (unhide HS).1.2.1, (unhide HS).1.2.2.1, (RAt.alloc (unhide HS).1.2.2.2 _).alloc _⟩
      have m0 : ((wr.alloc (.cells #[.int .i64 s.c, .int .i64 s.f] 47)).alloc (.cells #[.int .i64 s.c, .int .i64 s.f] 47)).cell? ⟨wr.heap.size + 1, 0, none⟩ = some (.int .i64 s.c) := by simp [go_sem]
      have m1 : ((wr.alloc (.cells #[.int .i64 s.c, .int .i64 s.f] 47)).alloc (.cells #[.int .i64 s.c, .int .i64 s.f] 47)).cell? ⟨wr.heap.size + 1, 1, none⟩ = some (.int .i64 s.f) := by simp [go_sem]
      have hwb : wr.heap.size + 1 ≠ p := by omega
      clear c1 c3 c4 q1 q2 q3 q4 q5
      generalize ((wr.alloc (.cells #[.int .i64 s.c, .int .i64 s.f] 47)).alloc (.cells #[.int .i64 s.c, .int .i64 s.f] 47)) = wA at hRA m0 m1 q0 ⊢
      refine (nothing_any hRA.2.2.2 q).mono ?_
      rintro e w5 ⟨⟨nb, rfl, hnb⟩, hS5, hF5⟩
      have hbp : b ≠ p := by
        have h1 := hRA.2.1
        obtain ⟨b', off', e, hc⟩ := (unhide HL).1 (by omega)
        injection e with e
        injection e with e1 e2
        have h2 := hc i hlt 0 (by omega)
        have h3 := World.block_lt_of_cell? _ _ h2
        have h4 : b' < w.heap.size := h3
        omega
      have n0 := (hF5.cell (a := ⟨wr.heap.size + 1, 0, none⟩) (World.block_lt_of_cell? _ _ m0) hwb).trans m0
      have n1 := (hF5.cell (a := ⟨wr.heap.size + 1, 1, none⟩) (World.block_lt_of_cell? _ _ m1) hwb).trans m1
      have k0 := (hF5.cell (a := ⟨b, off + i * 6, none⟩) (World.block_lt_of_cell? _ _ q0) hbp).trans q0
      have HS5 := hide (hRA.next hS5 hF5)
      clear hRA m0 m1 q0 hS5 hF5
      have hbl : b < w5.heap.size := World.block_lt_of_cell? _ _ k0
      have hwl : wr.heap.size + 1 < w5.heap.size := World.block_lt_of_cell? _ _ n0
      by_cases hc : s.c = 0
      · obtain ⟨s', Hs'⟩ : ∃ s', Hid (stepP bs s q = s') := ⟨_, rfl⟩
        rw [unhide Hs'] at HS5
        have c3 := (unhide HS5).2.2.2.c3
        have c4 := (unhide HS5).2.2.2.c4
        have hpw5 := (unhide HS5).2.2.2.lt
        have hcb : (s.c != 0) = false := by simp [hc]
        have HC := hide hc
        clear hc hnb
        by_cases hd : s'.c = 0
        · have hdb : (s'.c == 0) = true := by simp [hd]
          have HD := hide hd
          clear hd
          by_cases hk : 0 ≤ q.kind ∧ q.kind ≤ 6
          · have hk1 : decide (0 ≤ q.kind) = true := by simp; omega
            have hk2 : decide (q.kind ≤ 6) = true := by simp; omega
            have HK := hide hk
            clear hk
            go_wp2_with fail
            refine (fault_any p s'.c s'.f _ c3 c4 hpw5).mono ?_
            rintro e w6 ⟨rfl, rfl⟩
            go_wp2
            refine ⟨⟨i + 1, by omega, by go_num, _, rfl, s', (unhide HS5).alloc _, fun hz => ?_⟩, by simp [intOf]; omega⟩
            have hl := stepP_l (bs := bs) (unhide HC) (unhide HK) (by rw [unhide Hs']; exact hz)
            rw [unhide Hs'] at hl
            rw [hl]
          · have hkk : q.kind < 0 ∨ (0 ≤ q.kind ∧ 6 < q.kind) := by omega
            have HK := hide hk
            clear hk
            rcases hkk with hkk | hkk
            · have hk1 : decide (0 ≤ q.kind) = false := by simp; omega
              go_wp2_with fail
              refine (fault_any p s'.c s'.f _ c3 c4 hpw5).mono ?_
              rintro e w6 ⟨rfl, rfl⟩
              go_wp2
              refine ⟨⟨i + 1, by omega, by go_num, _, rfl, s', (unhide HS5).alloc _, fun hz => ?_⟩, by simp [intOf]; omega⟩
              have hl := stepP_other (bs := bs) (s := s) (unhide HK)
              rw [unhide Hs'] at hl
              rw [hl]
              exact (unhide HS).2 (unhide HC)
            · have hk1 : decide (0 ≤ q.kind) = true := by simp; omega
              have hk2 : decide (q.kind ≤ 6) = false := by simp; omega
              go_wp2_with fail
              refine (fault_any p s'.c s'.f _ c3 c4 hpw5).mono ?_
              rintro e w6 ⟨rfl, rfl⟩
              go_wp2
              refine ⟨⟨i + 1, by omega, by go_num, _, rfl, s', (unhide HS5).alloc _, fun hz => ?_⟩, by simp [intOf]; omega⟩
              have hl := stepP_other (bs := bs) (s := s) (unhide HK)
              rw [unhide Hs'] at hl
              rw [hl]
              exact (unhide HS).2 (unhide HC)
        · have hdb : (s'.c == 0) = false := by simp [hd]
          have HD := hide hd
          clear hd
          go_wp2_with fail
          refine (fault_any p s'.c s'.f _ c3 c4 hpw5).mono ?_
          rintro e w6 ⟨rfl, rfl⟩
          go_wp2
          exact ⟨⟨i + 1, by omega, by go_num, _, rfl, s', (unhide HS5).alloc _, fun hz => absurd hz (unhide HD)⟩, by simp [intOf]; omega⟩
      · obtain rfl := hnb hc
        rw [stepP_bad hc] at HS5
        have c1 := (unhide HS5).2.2.2.c1
        have c3 := (unhide HS5).2.2.2.c3
        have c4 := (unhide HS5).2.2.2.c4
        have hpw5 := (unhide HS5).2.2.2.lt
        have hcb : (s.c != 0) = true := by simp [hc]
        have hab : ((s.a : Int) != (s.a : Int)) = false := by simp
        have HC := hide hc
        clear hc hnb
        go_wp2_with fail
        go_region_with (first | (go_at_call 20; refine (at_any p s.a w5.drew c1).mono ?_; rintro e w7 ⟨rfl, rfl⟩) | (go_at_call 22; refine (fault_any p s.c s.f w5.drew c3 c4 hpw5).mono ?_; rintro e w7 ⟨rfl, rfl⟩))
        all_goals
          go_wp2
          exact ⟨⟨i + 1, by omega, by go_num, _, rfl, s, (unhide HS5).drew.alloc _, fun hz => absurd hz (unhide HC)⟩, by simp [intOf]; omega⟩
    · have c3 := (unhide HS).1.2.2.2.c3
      have c4 := (unhide HS).1.2.2.2.c4
      have hpw := (unhide HS).1.2.2.2.lt
      go_wp2_with fail
      refine (fault_any p s.c s.f _ c3 c4 hpw).mono ?_
      rintro e w3 ⟨rfl, rfl⟩
      go_wp2_with fail
      have hRA : ROwn w ((wr.alloc (.cells #[.int .i64 s.c, .int .i64 s.f] 47)).alloc (.cells #[.int .i64 s.c, .int .i64 s.f] 47)) p g bs s := ((unhide HS).1.alloc _).alloc _
      have m0 : ((wr.alloc (.cells #[.int .i64 s.c, .int .i64 s.f] 47)).alloc (.cells #[.int .i64 s.c, .int .i64 s.f] 47)).cell? ⟨wr.heap.size + 1, 0, none⟩ = some (.int .i64 s.c) := by simp [go_sem]
      have m1 : ((wr.alloc (.cells #[.int .i64 s.c, .int .i64 s.f] 47)).alloc (.cells #[.int .i64 s.c, .int .i64 s.f] 47)).cell? ⟨wr.heap.size + 1, 1, none⟩ = some (.int .i64 s.f) := by simp [go_sem]
      have hwb : wr.heap.size + 1 ≠ p := by omega
      clear c3 c4
      generalize ((wr.alloc (.cells #[.int .i64 s.c, .int .i64 s.f] 47)).alloc (.cells #[.int .i64 s.c, .int .i64 s.f] 47)) = wA at hRA m0 m1 ⊢
      refine (fail_any hRA.2.2.2 x).mono ?_
      rintro e w5 ⟨rfl, hS5, hF5⟩
      have n0 := (hF5.cell (a := ⟨wr.heap.size + 1, 0, none⟩) (World.block_lt_of_cell? _ _ m0) hwb).trans m0
      have n1 := (hF5.cell (a := ⟨wr.heap.size + 1, 1, none⟩) (World.block_lt_of_cell? _ _ m1) hwb).trans m1
      have hwl : wr.heap.size + 1 < w5.heap.size := World.block_lt_of_cell? _ _ n0
      have HS5 := hide (hRA.next hS5 hF5)
      have Hbg := hide (unhide HS).2
      clear hRA m0 m1 hS5 hF5
      by_cases hsame : failR s x = s
      · rw [hsame] at HS5
        have c3 := (unhide HS5).2.2.2.c3
        have c4 := (unhide HS5).2.2.2.c4
        have hpw5 := (unhide HS5).2.2.2.lt
        have hor : s.c ≠ 0 ∨ (s.c = 0 ∧ x = 0) := by
          by_cases h1 : s.c = 0
          · right
            refine ⟨h1, ?_⟩
            by_cases h2 : x = 0
            · exact h2
            · exfalso
              have : (failR s x).c = x := by simp [failR, h1, h2]
              rw [hsame, h1] at this
              exact h2 this.symm
          · exact .inl h1
        clear hsame
        rcases hor with hc | ⟨hc, hx⟩
        · have hcb : (s.c != 0) = true := by simp [hc]
          clear hc
          go_wp2_with fail
          go_region_with (go_at_call 22; refine (fault_any p s.c s.f w5.drew c3 c4 hpw5).mono ?_; rintro e w7 ⟨rfl, rfl⟩)
          all_goals
            go_wp2
            go_ret
            exact ⟨rfl, (unhide HS5).1.drew.alloc _⟩
        · have hcb : (s.c != 0) = false := by simp [hc]
          have hxb : (x == 0) = true := by simp [hx]
          clear hc hx
          go_wp2_with fail
          go_region_with (go_at_call 22; refine (fault_any p s.c s.f w5.drew c3 c4 hpw5).mono ?_; rintro e w7 ⟨rfl, rfl⟩)
          all_goals
            go_wp2
            go_ret
            exact ⟨rfl, (unhide HS5).1.drew.alloc _⟩
      · have hc : s.c = 0 := by
          by_cases h1 : s.c = 0
          · exact h1
          · exact absurd (by simp [failR, h1]) hsame
        have hx : x ≠ 0 := fun h => hsame (by simp [failR, h])
        have e1 : failR s x = { s with c := x, f := s.l } := by simp [failR, hc, hx]
        obtain rfl := unhide Hbg hc
        rw [e1] at HS5
        have c3 := (unhide HS5).2.2.2.c3
        have c4 := (unhide HS5).2.2.2.c4
        have hpw5 := (unhide HS5).2.2.2.lt
        have hcb : (s.c != 0) = false := by simp [hc]
        have hxb : (x == 0) = false := by simp [hx]
        clear hc hx e1 hsame
        go_wp2_with fail
        refine (fault_any p x s.l _ c3 c4 hpw5).mono ?_
        rintro e w7 ⟨rfl, rfl⟩
        go_wp2
        go_ret
        exact ⟨rfl, ((unhide HS5).1.alloc _).alloc _⟩

end Go.Proofs.Ytdbmojiplfkniaa
