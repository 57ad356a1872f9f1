import Derived.Test.YtabhfeocelljdaaDoorDR2
/- LinkDrains: its walk. -/
namespace Go.Proofs.YtabhfeocelljdaaDoor
open Go.RowKit Go.Maps

theorem Tryd.info3D : (Tryd.prog.info? 3).map (fun i => (i.zero, i.size, i.bytes)) = some (some (.int .i64 0), 1, 8) := by kernel_rfl
theorem made_ints (n : Nat) : madeCells #[.int .i64 0] n = ((List.replicate n (0 : Int)).map (Value.int .i64)).toArray := by
  apply Array.ext
  · simp [madeCells]
  · intro i h1 h2
    simp [madeCells, Nat.mod_one]

/-- A frame of one's own, read. -/
theorem FrM.Ok.atD {w : World} {x : FrM} (h : x.Ok w) (h8 : x.f.items.length ≤ 8) : x.f.At w x.io none 0 := by
  have hnb := h.nb
  exact ⟨h.il.rows (by omega), ⟨fun _ => ⟨by rw [hnb]; rfl, rfl⟩, fun h => absurd h (by rw [hnb]; simp), by rw [hnb]; simp⟩⟩
/-- Is something lost? -/
def lossB (ls : List Bool) (a : Nat) : Bool := ls.getD (a % ls.length) false
theorem mustF_step (k : Int) (ms : List Int) (a m : Nat) : mustF k ms a (m + 1) = (mustF k ms a m || decide (k - 1 ≤ ms.getD (a + m) 0)) := by
  unfold mustF
  rw [Bool.eq_iff_iff]
  simp only [decide_eq_true_eq, Bool.or_eq_true]
  constructor
  · rintro ⟨j, h1, h2⟩
    by_cases e : j = m
    · subst e; exact .inr h2
    · exact .inl ⟨j, by omega, h2⟩
  · rintro (⟨j, h1, h2⟩ | h)
    · exact ⟨j, by omega, h2⟩
    · exact ⟨m, by omega, h⟩
theorem FL.atD {M : Nat} {w : World} {fo : Option Addr} {fc fb : Nat} {xs : List FrM} (h : FL M w fo fc fb xs) (i : Nat) (x : FrM) (hi : xs[i]? = some x) : fo = some ⟨fb, 0, none⟩ ∧ ∀ j, j < 5 → w.cell? ⟨fb, i * 5 + j, none⟩ = x.cells[j]? := by
  have hil := (List.getElem?_eq_some_iff.1 hi).1
  have hle := h.row.le
  rw [flat5] at hle
  refine ⟨h.row.ad (by omega), fun j hj => ?_⟩
  have hlt : i * 5 + j < (xs.flatMap FrM.cells).length := by rw [flat5]; omega
  rw [h.row.cells _ hlt, ← List.getElem?_eq_getElem hlt]
  exact flat5_get xs i j _ hi hj
/-- Frames under way, and what lies beside them. -/
structure DF (w wI : World) (M p b q mb K E n g : Nat) (s : Snd) (st0 : Dst) (d0 : Int) (F : List Fm) (MT : Nat) (fo : Option Addr) (fc fb : Nat) (fx : List FrM) (t : Nat) (i a : Nat) (st : Dst) (wr : World) : Prop where
  dm : DM w wI M p b q mb s st.R st.ms wr
  dt : DT K n E g st0 d0 F i st
  fl : FL MT wr fo fc fb fx
  at_ : a ≤ 128 * t + 2 * i
  lt : q < MT ∧ mb < MT

set_option maxHeartbeats 40000000 in
set_option maxRecDepth 20000 in
theorem drains_walk (w : World) (hT : TabP w) (n0 n1 n2 n3 n4 : Int) (lo : Option Addr) (lc : Nat) (ls : List Bool) (hL : BoolsAt w lo ls) :
    Calls Tryd.prog 3 #[.int .i64 n0, .int .i64 n1, .int .i64 n2, .int .i64 n3, .int .i64 n4, .slice lo ls.length lc] w fun e w' => e = .returned (.bool true) ∧ Fr (fun _ => False) w w' := by
  have HT := hide hT
  have HL := hide hL
  have hlI : (ls.length : Int) ≤ 140737488355328 := by have := hL.small; omega
  have ha0 : bits .and .i64 n0 31 = n0 % 32 := i64_and31D n0
  have ha1 : bits .and .i64 n1 7 = n1 % 8 := i64_and7D n1
  have ha2 : bits .and .i64 n2 7 = n2 % 8 := i64_and7D n2
  have ha3 : bits .and .i64 n3 31 = n3 % 32 := i64_and31D n3
  have ha4 : bits .and .i64 n4 3 = n4 % 4 := i64_and3D n4
  obtain ⟨k0, hk0⟩ : ∃ k0 : Nat, n0 % 32 = (k0 : Int) := ⟨(n0 % 32).toNat, by omega⟩
  obtain ⟨k1, hk1⟩ : ∃ k1 : Nat, n1 % 8 = (k1 : Int) := ⟨(n1 % 8).toNat, by omega⟩
  obtain ⟨k2, hk2⟩ : ∃ k2 : Nat, n2 % 8 = (k2 : Int) := ⟨(n2 % 8).toNat, by omega⟩
  obtain ⟨n, hk3⟩ : ∃ n : Nat, n3 % 32 = (n : Int) := ⟨(n3 % 32).toNat, by omega⟩
  obtain ⟨k4, hk4⟩ : ∃ k4 : Nat, n4 % 4 = (k4 : Int) := ⟨(n4 % 4).toNat, by omega⟩
  have hl0 : k0 < 32 := by omega
  have hl1 : k1 < 8 := by omega
  have hl2 : k2 < 8 := by omega
  have hl3 : n ≤ 31 := by omega
  have hl4 : k4 < 4 := by omega
  rw [hk0] at ha0
  rw [hk1] at ha1
  rw [hk2] at ha2
  rw [hk3] at ha3
  rw [hk4] at ha4
  clear hT hL hk0 hk1 hk2 hk3 hk4
  go_enter Tryd.func3, Tryd.ntmps3
  go_wp2_with fail
  refine (awakeL_any w (unhide HT)).mono ?_
  rintro e w1 ⟨rfl, h1⟩
  go_wp2_with fail
  refine (newsender_ok w1 (a := 1 + (k0 : Int)) (b := 1 + (k1 : Int)) (c := 1 + (k2 : Int)) (by unfold sndOk; omega)).mono ?_
  rintro e w2 ⟨p, m, rfl, h2, h3, h4, h5⟩
  have HS2 := hide (And.intro h2 (And.intro ((unhide h1).trans h3 (fun _ _ t => t)) (And.intro h4 (And.intro h5 (unhide h1).size))))
  clear h1 h2 h3 h4 h5
  go_wp2_with fail
  refine (newreceiver_any w2).mono ?_
  rintro e w3 ⟨rfl, h6, h7⟩
  have HS3 : Hid (RV w3 w2.heap.size 0 ∧ Fr (fun _ => False) w2 w3) := hide ⟨h6, by rw [h7]; exact (Fr.refl _ _).alloc _⟩
  clear h6 h7
  go_wp2
  obtain ⟨E, hE⟩ : ∃ E : Nat, (1 + (k2 : Int)) = (E : Int) := ⟨1 + k2, by omega⟩
  obtain ⟨K, hK⟩ : ∃ K : Nat, (1 + (k4 : Int)) = (K : Int) := ⟨1 + k4, by omega⟩
  rw [hE, hK]
  have hE1 : 1 ≤ E ∧ E ≤ 8 := by omega
  have hK1 : 1 ≤ K ∧ K ≤ 4 := by omega
  clear ha0 ha1 ha2 ha3 ha4
  obtain ⟨info, hinf, hzz⟩ := Option.map_eq_some_iff.1 infoIt
  simp only [Prod.mk.injEq] at hzz
  have HINF := hide (And.intro hinf hzz)
  have hnI : (n : Int) ≤ 31 := by omega
  have hmk := fun w' => run_make_row' (P := Tryd.prog) 34 3 (.int .i64 0) 8 Tryd.underlying34 Tryd.info3D rfl .i64 .i64 (n + 1) (by omega) (by omega) w'
  have hcast : ((n + 1 : Nat) : Int) = (n : Int) + 1 := by omega
  rw [hcast] at hmk
  have HMK := hide hmk
  clear hinf hzz hcast hmk
  go_loopw [19, 20] (fun v iv wk => ∃ (j : Nat) (jo : Option Addr) (jc jb : Nat) (es : List (Int × RD)), j ≤ n ∧ v = .slice jo j jc ∧ iv = .int .i64 ((j : Int) + 1) ∧ Hid (Fr (fun _ => False) w3 wk ∧ QL w3.heap.size wk jo jc jb es (numI 1 (byL j)))) (fun _ iv _ => n + 1 - (intOf iv).toNat)
  case atStart => exact ⟨0, none, 0, 0, [], Nat.zero_le _, rfl, rfl, hide ⟨Fr.refl _ _, QL.nil _ _ _⟩⟩
  case round =>
    obtain ⟨j, jo, jc, jb, es, hj, rfl, rfl, HQ⟩ := hrel
    by_cases hjl : j < n
    · have hjI : (j : Int) + 1 ≤ (n : Int) := by omega
      have hw8 : IntKind.u8.wrap ((j : Int) + 1) = (j : Int) + 1 := by rw [IntKind.wrap_u8]; omega
      have HEL : Hid (es.length = j) := hide (by rw [(unhide HQ).2.n1, numI_length, byL_length])
      have HFA : Hid (Fr (fun _ => False) wr ((wr.alloc (.cells #[.int .u8 ((j : Int) + 1)] 5)).alloc (.cells #[.int .i64 ((j : Int) + 1), .slice (some ⟨wr.heap.size, 0, none⟩) 1 1] 33))) := hide (((Fr.refl _ _).alloc _).alloc _)
      have HQA := hide ((unhide HQ).2.stay (unhide HFA) (fun _ t => t.elim))
      have HRB : Hid (Row ((wr.alloc (.cells #[.int .u8 ((j : Int) + 1)] 5)).alloc (.cells #[.int .i64 ((j : Int) + 1), .slice (some ⟨wr.heap.size, 0, none⟩) 1 1] 33)) (.slice (some ⟨wr.heap.size, 0, none⟩) 1 1) wr.heap.size [UInt8.ofNat (j + 1)]) := hide (by
        have h1 := row_byte wr (j + 1) (by omega)
        rw [show ((j + 1 : Nat) : Int) = (j : Int) + 1 by omega] at h1
        exact h1.frame ((Fr.refl (fun _ => False) _).alloc _) (fun t => t))
      have hsr := (src_one (P := Tryd.prog) (wr.alloc (.cells #[.int .u8 ((j : Int) + 1)] 5)) [.int .i64 ((j : Int) + 1), .slice (some ⟨wr.heap.size, 0, none⟩) 1 1] 30 33 2 Tryd.underlying30 rfl (fun u hu => by simp only [List.mem_cons, List.not_mem_nil, or_false] at hu; rcases hu with rfl | rfl <;> rfl) (W := (wr.alloc (.cells #[.int .u8 ((j : Int) + 1)] 5)).alloc (.cells #[.int .i64 ((j : Int) + 1), .slice (some ⟨wr.heap.size, 0, none⟩) 1 1] 33)) (fun j => by rw [World.cell?_alloc_new]; simp))
      rw [heap_alloc] at hsr
      have HSR := hide hsr
      clear hsr
      go_wp2_with (at_builtin; refine wpList_append_krow _ rfl (.tmp 75) (.tmp 81) 30 30 rfl 33 info _ 2 (by omega) Tryd.underlying30 (unhide HINF).1 (unhide HINF).2.1 rfl (unhide HINF).2.2.1 rfl (unhide HQA).row (by rw [flat2_len, unhide HEL]) _ [.int .i64 ((j : Int) + 1), .slice (some ⟨wr.heap.size, 0, none⟩) 1 1] 1 rfl (unhide HSR) (by rw [(unhide HINF).2.2.2]; omega) (by omega) ?_)
      intro jo' jc' wB jb' hkr hgr
      have HNX : Hid (Fr (fun _ => False) w3 wB ∧ QL w3.heap.size wB jo' jc' jb' (es ++ [((j : Int) + 1, ⟨some ⟨wr.heap.size, 0, none⟩, 1, 1, wr.heap.size⟩)]) (numI 1 (byL (j + 1)))) := by
        obtain ⟨q1, q2⟩ := unhide HQ
        have hz := q1.size
        have hz2 := (unhide HFA).size
        refine hide ⟨(q1.trans (unhide HFA) (fun _ _ t => t)).trans hgr.frZ (fun i hi t => by have := q2.ib t.2; omega), ?_⟩
        rw [byL_succ, numI_append, byL_length]
        have hnx := (unhide HQA).next (q := (j : Int) + 1) (d := ⟨some ⟨wr.heap.size, 0, none⟩, 1, 1, wr.heap.size⟩) (x := [UInt8.ofNat (j + 1)]) (by simp) (unhide HRB) rfl (fun _ => ⟨hz, fun hc => by have := q2.row.lt (by omega) hc; show wr.heap.size ≠ jb; omega⟩) hkr hgr (by omega)
        rw [show (1 : Int) + (j : Int) = (j : Int) + 1 by omega]
        exact hnx
      clear hkr hgr HSR HRB HQA HFA HQ
      go_wp2
      exact ⟨⟨j + 1, jo', jc', jb', _, by omega, rfl, by go_num, HNX⟩, by simp [intOf]; omega⟩
    · have e : n = j := by omega
      subst e
      have hmk := unhide HMK
      clear HMK HINF
      go_wp2
      clear hmk hjl hj
      obtain ⟨WI, hWI⟩ : ∃ WI, WI = wr := ⟨_, rfl⟩
      subst hWI
      have hdw : DW w WI w3.heap.size p m w2.heap.size WI.heap.size K E n ⟨1 + (k0 : Int), 1 + (k1 : Int), 1 + (k2 : Int), 0, []⟩ ⟨0, 0, 0, List.replicate (n + 1) 0⟩ 0 0 (WI.alloc (.cells (madeCells #[.int .i64 0] (n + 1)) 3)) := by
        obtain ⟨a1, a2, a3, a4, a5⟩ := unhide HS2
        obtain ⟨b1, b2⟩ := unhide HS3
        obtain ⟨c1, c2⟩ := unhide HQ
        have d1 := a1.bx.lt
        have d2 := a1.mp.lt
        have d3 : w2.heap.size < w3.heap.size := b1.lt
        have d4 := a2.size
        have d5 := c1.size
        have hk3 : Fr (fun _ => False) w3 (WI.alloc (.cells (madeCells #[.int .i64 0] (n + 1)) 3)) := c1.alloc _
        have hdi : DI K n ⟨0, 0, 0, List.replicate (n + 1) 0⟩ := ⟨by simp, fun j => by
          have : (List.replicate (n + 1) (0 : Int)).getD j 0 = 0 := by simp [List.getD_eq_getElem?_getD, List.getElem?_replicate]; split <;> rfl
          show 0 ≤ (List.replicate (n + 1) (0 : Int)).getD j 0 ∧ (List.replicate (n + 1) (0 : Int)).getD j 0 ≤ (K : Int) - 1
          rw [this]
          omega, ⟨by show (0 : Int) ≤ 0; omega, by show (0 : Int) ≤ (K : Int) - 1; omega⟩, ⟨by show (0 : Int) ≤ 0; omega, by show (0 : Int) ≤ (n : Int); omega⟩, ⟨by show (0 : Int) ≤ 0; omega, by show (0 : Int) ≤ (n : Int) + 1; omega⟩⟩
        refine ⟨⟨(a2.trans b2 (fun _ _ t => t)).trans hk3 (fun _ _ t => t), (Fr.refl _ _).alloc _, (a1.frame b2 (fun t => t) (fun t => t)).frame hk3 (fun t => t) (fun t => t), Bx.keep b1 hk3, ?_, ⟨by omega, by omega, by omega, by omega⟩, ⟨by omega, by omega, by omega, by omega, by omega⟩, ⟨by omega, by omega⟩⟩, hdi, List.Pairwise.nil, by simp, hE, rfl, by omega, fun hg => ?_⟩
        · have := Bx.new WI (madeCells #[.int .i64 0] (n + 1)) 3
          rw [made_ints] at this ⊢
          exact this
        · have := farD_first (E := E) hdi rfl (by omega) (by omega) (d := dueIn ⟨1 + (k0 : Int), 1 + (k1 : Int), 1 + (k2 : Int), 0, []⟩ (0 + 1)) (by show (1 : Int) ≤ 1 ∧ (1 : Int) ≤ E; omega)
          simpa using this
      have HDW := hide hdw
      have HQI : Hid (QL w3.heap.size WI jo jc jb es (numI 1 (byL n))) := hide (unhide HQ).2
      clear hdw HQ HS2 HS3
      generalize WI.alloc (.cells (madeCells #[.int .i64 0] (n + 1)) 3) = w4 at *
      generalize WI.heap.size = mb at *
      generalize w2.heap.size = q at *
      generalize w3.heap.size = M at *
      obtain ⟨m2, hm2⟩ : ∃ m2 : Nat, 2 * n * K = m2 := ⟨_, rfl⟩
      obtain ⟨m3, hm3⟩ : ∃ m3 : Nat, m2 * K = m3 := ⟨_, rfl⟩
      obtain ⟨m4, hm4⟩ : ∃ m4 : Nat, m3 * E = m4 := ⟨_, rfl⟩
      obtain ⟨m5, hm5⟩ : ∃ m5 : Nat, n * K = m5 := ⟨_, rfl⟩
      obtain ⟨m6, hm6⟩ : ∃ m6 : Nat, m5 * E = m6 := ⟨_, rfl⟩
      have b2 : m2 ≤ 62 * 4 := by rw [← hm2]; exact Nat.mul_le_mul (by omega) hK1.2
      have b3 : m3 ≤ 62 * 4 * 4 := by rw [← hm3]; exact Nat.mul_le_mul b2 hK1.2
      have b4 : m4 ≤ 62 * 4 * 4 * 8 := by rw [← hm4]; exact Nat.mul_le_mul b3 hE1.2
      have b5 : m5 ≤ 31 * 4 := by rw [← hm5]; exact Nat.mul_le_mul hl3 hK1.2
      have b6 : m6 ≤ 31 * 4 * 8 := by rw [← hm6]; exact Nat.mul_le_mul b5 hE1.2
      have HLIM : Hid ((n : Int) * ((K : Int) * E + K * (K * E)) ≤ ((m4 + m6 : Nat) : Int)) := hide (by
        have h1 : n * (K * E + K * (K * E)) ≤ m4 + m6 := by
          rw [← hm6, ← hm5, ← hm4, ← hm3, ← hm2]
          simp only [Nat.mul_add, Nat.mul_assoc]
          omega
        have h2 : (n : Int) * ((K : Int) * E + K * (K * E)) = ((n * (K * E + K * (K * E)) : Nat) : Int) := by simp [Int.natCast_mul, Int.natCast_add]
        rw [h2]
        omega)
      have g2 : 2 * (n : Int) * (K : Int) = (m2 : Int) := by rw [← hm2]; simp [Int.natCast_mul]
      have g3 : (m2 : Int) * (K : Int) = (m3 : Int) := by rw [← hm3]; simp [Int.natCast_mul]
      have g4 : (m3 : Int) * (E : Int) = (m4 : Int) := by rw [← hm4]; simp [Int.natCast_mul]
      have g5 : (n : Int) * (K : Int) = (m5 : Int) := by rw [← hm5]; simp [Int.natCast_mul]
      have g6 : (m5 : Int) * (E : Int) = (m6 : Int) := by rw [← hm6]; simp [Int.natCast_mul]
      clear hm2 hm3 hm4 hm5 hm6
      obtain ⟨hc1, hc2, hc3, hc4, hc5⟩ : (m2 : Int) ≤ 248 ∧ (m3 : Int) ≤ 992 ∧ (m4 : Int) ≤ 7936 ∧ (m5 : Int) ≤ 124 ∧ (m6 : Int) ≤ 992 := by omega
      go_loopw [22, 23, 24, 25] (fun va vt vg vk wk => ∃ (t a g mA : Nat) (s : Snd) (st : Dst), t ≤ m4 + m6 ∧ va = .int .i64 (mA : Int) ∧ vt = .int .i64 (a : Int) ∧ vg = .int .i64 (g : Int) ∧ vk = .int .i64 (t : Int) ∧ Hid (DW w WI M p m q mb K E n s st t a wk ∧ st.g = g ∧ st.mA = mA)) (fun _ _ _ vk _ => m4 + m6 - (intOf vk).toNat)
      case atStart => exact ⟨0, 0, 0, 0, _, _, Nat.zero_le _, rfl, rfl, rfl, rfl, hide ⟨unhide HDW, rfl, rfl⟩⟩
      case round =>
        obtain ⟨t, a, g, mA, s, st0, ht, rfl, rfl, rfl, rfl, HK⟩ := hrel
        clear HDW
        obtain ⟨W0, hW0⟩ : ∃ W0, W0 = wr := ⟨_, rfl⟩
        subst hW0
        by_cases hg : g < n
        · have htl : t < m4 + m6 := by
            obtain ⟨h1, h2, h3⟩ := unhide HK
            have hpo := h1.po (by omega)
            have hpos := farD_pos h1.di (by omega) (by omega) (E := E) (by omega) (dueIn_in (fun e he => (h1.dm.sn.tks e he).2) h1.dm.sn.evy.1 (st0.g + 1) |> fun t => by rw [h1.ev] at t; exact t)
            have := unhide HLIM
            omega
          have htI : (t : Int) < (m4 : Int) + (m6 : Int) := by omega
          have hgI : (g : Int) < (n : Int) := by omega
          go_upto_region 21 with (fail)
          have hjn : n ≤ jc := by have := (unhide HQI).row.le; rw [flat2_len, (unhide HQI).n1, numI_length, byL_length] at this; omega
          obtain ⟨hjo, _⟩ := (unhide HQI).from_ (by rw [numI_length, byL_length]; omega) (g := 0) (by rw [numI_length, byL_length]; omega)
          subst hjo
          have hcg : ¬ jc = g := by omega
          have hjI : (n : Int) ≤ (jc : Int) := by omega
          have hta : Calls Tryd.prog 7 #[.pointer (some ⟨p, 0, none⟩), .slice (some ⟨jb, g * 2, none⟩) (n - g) (jc - g)] W0 fun e w' => ∃ fo fc, e = .returned (.slice fo (tickF s (numI ((g : Int) + 1) ((byL n).drop g))).2.length fc) ∧ Hid (SN w' p m (tickF s (numI ((g : Int) + 1) ((byL n).drop g))).1 ∧ (∃ fb xs, FL W0.heap.size w' fo fc fb xs ∧ xs.map FrM.f = (tickF s (numI ((g : Int) + 1) ((byL n).drop g))).2) ∧ Fr (fun k => k = p ∨ k = m) W0 w' ∧ FOk (baseOf (numI ((g : Int) + 1) ((byL n).drop g))) s.bat 64 (tickF s (numI ((g : Int) + 1) ((byL n).drop g))).2) := by
            have hk := (unhide HK).1
            have htk := tick_any hk.dm.sn (some ⟨jb, g * 2, none⟩) (jc - g) (numI ((g : Int) + 1) ((byL n).drop g)) (fun u hu => by
              have h1 := ((unhide HQI).far (hk.dm.fi.trans hu (fun i hi t => by have t : i = p ∨ i = m := t; have := hk.dm.hi; show i < M ∨ _; omega))).from_ (by rw [numI_length, byL_length]; omega) (g := g) (by rw [numI_length, byL_length]; exact hg)
              have h2 := h1.2
              rw [numI_drop, show (1 : Int) + (g : Int) = (g : Int) + 1 by omega] at h2
              exact h2) (by rw [numI_length, List.length_drop, byL_length]; omega) (by rw [hk.ck]; omega) (by have := hk.sm; omega)
            rw [numI_length, List.length_drop, byL_length] at htk
            exact htk
          have HTA := hide hta
          have HFST := hide ((unhide HK).1.first hl3 hg)
          have HEND : Hid (∀ (st : Dst) (wr : World) (a' : Nat), DT K n E g st0 (dueIn s ((g : Int) + 1)) (tickF s (numI ((g : Int) + 1) ((byL n).drop g))).2 (tickF s (numI ((g : Int) + 1) ((byL n).drop g))).2.length st → DM w WI M p m q mb (tickF s (numI ((g : Int) + 1) ((byL n).drop g))).1 st.R st.ms wr → a' ≤ 128 * t + 128 → DW w WI M p m q mb K E n (tickF s (numI ((g : Int) + 1) ((byL n).drop g))).1 st (t + 1) a' wr) := hide (fun st wr a' h1 h2 h3 => (unhide HK).1.ends hl3 hK1.1 hE1.1 (unhide HK).2.1 hg h1 h2 h3)
          have HFRM := hide (drain_frames (s := s) hl3 hg (unhide HK).1.dm.sn.bat.2)
          have HD0 : Hid (1 ≤ dueIn s ((g : Int) + 1) ∧ dueIn s ((g : Int) + 1) ≤ E) := hide (by
            have h1 := (unhide HK).1
            have := dueIn_in (fun e he => (h1.dm.sn.tks e he).2) h1.dm.sn.evy.1 ((g : Int) + 1)
            rw [h1.ev] at this
            exact this)
          clear hta
          generalize tickF s (numI ((g : Int) + 1) ((byL n).drop g)) = TF at *
          generalize dueIn s ((g : Int) + 1) = d0 at *
          go_wp2_with fail
          refine (unhide HTA).mono ?_
          rintro e w5 ⟨fo, fc, rfl, H5⟩
          obtain ⟨S', F⟩ := TF
          simp only at HFST HEND HFRM H5 ⊢
          obtain ⟨h1, ⟨fb, fx, h2, h3⟩, h4, h5⟩ := unhide H5
          have HDF : Hid (DF w WI M p m q mb K E n g S' st0 d0 F W0.heap.size fo fc fb fx t 0 a st0 w5) := hide ⟨(unhide HK).1.dm.tick h4 h1, DT.start (unhide HK).1.di (unhide HK).2.1, h2, by have := (unhide HK).1.at_; omega, ⟨(unhide HK).1.dm.rv.lt, (unhide HK).1.dm.bx.lt⟩⟩
          have HFX := hide h3
          have HFR := hide (unhide HFRM h5)
          have hFn : F.length ≤ 64 := h5.few
          have HM0 : Hid (st0.g = g ∧ st0.mA = mA) := hide (unhide HK).2
          clear h1 h2 h3 h4 h5 H5 HTA HFRM
          generalize W0.heap.size = MT at *
          have hFI : (F.length : Int) ≤ 64 := by omega
          go_wp2
          go_loopw [22, 23, 24, 27] (fun va vt vg vi wk => ∃ (i a mA g' : Nat) (st : Dst), i ≤ F.length ∧ va = .int .i64 (mA : Int) ∧ vt = .int .i64 (a : Int) ∧ vg = .int .i64 (g' : Int) ∧ vi = .int .i64 (i : Int) ∧ Hid (DF w WI M p m q mb K E n g S' st0 d0 F MT fo fc fb fx t i a st wk ∧ st.g = g' ∧ st.mA = mA)) (fun _ _ _ vi _ => F.length - (intOf vi).toNat)
          case atStart => exact ⟨0, a, mA, g, st0, Nat.zero_le _, rfl, rfl, rfl, rfl, hide ⟨unhide HDF, unhide HM0⟩⟩
          case round =>
            clear HDF HM0
            obtain ⟨i, a, mA, g', st, hi, rfl, rfl, rfl, rfl, HD⟩ := hrel
            by_cases hil : i < F.length
            · have hiI : (i : Int) < (F.length : Int) := by omega
              have hix : i < fx.length := by have := congrArg List.length (unhide HFX); rw [List.length_map] at this; omega
              have HXK : Hid (fx[i]? = some fx[i]) := hide (List.getElem?_eq_getElem hix)
              have hfe : fx[i].f = F[i] := by
                have : (fx.map FrM.f)[i]? = F[i]? := by rw [unhide HFX]
                rw [List.getElem?_map, List.getElem?_eq_getElem hix, List.getElem?_eq_getElem hil] at this
                simpa using this
              obtain ⟨e1, e2, e3, e4, e5, a0, e6, e7, e8, e9⟩ := unhide HFR _ (List.getElem_mem hil)
              obtain ⟨x1, x2⟩ := (unhide HD).1.fl.atD i _ (unhide HXK)
              subst x1
              have HSQ : Hid (F[i].seq = (a0 : Int)) := hide e6
              have HOK := hide ((unhide HD).1.fl.ok _ (List.mem_of_getElem? (unhide HXK)))
              have u0 : wr.cell? ⟨fb, i * 5, none⟩ = some (.int .i64 1) := by have := x2 0 (by omega); simp only [FrM.cells, hfe, e1] at this; exact this
              have u1 : wr.cell? ⟨fb, i * 5 + 1, none⟩ = some (.int .i64 ((g : Int) + 1)) := by have := x2 1 (by omega); simp only [FrM.cells, hfe, e3] at this; exact this
              have u2 : wr.cell? ⟨fb, i * 5 + 2, none⟩ = some (.int .i64 (a0 : Int)) := by have := x2 2 (by omega); simp only [FrM.cells, hfe, e6] at this; exact this
              have u3 : wr.cell? ⟨fb, i * 5 + 3, none⟩ = some (.slice fx[i].io F[i].items.length fx[i].ic) := by have := x2 3 (by omega); simp only [FrM.cells, hfe] at this; exact this
              have u4 : wr.cell? ⟨fb, i * 5 + 4, none⟩ = some (.slice none 0 0) := x2 4 (by omega)
              have HEE : Hid (F[i].kind = 1 ∧ F[i].may = true ∧ F[i].base = (g : Int) + 1 ∧ F[i].bytes = [] ∧ fx[i].f = F[i]) := hide ⟨e1, e2, e3, e4, hfe⟩
              have HUC : Hid (∀ u, FL MT u (some ⟨fb, 0, none⟩) fc fb fx → u.cell? ⟨fb, i * 5, none⟩ = some (.int .i64 1) ∧ u.cell? ⟨fb, i * 5 + 1, none⟩ = some (.int .i64 ((g : Int) + 1)) ∧ u.cell? ⟨fb, i * 5 + 2, none⟩ = some (.int .i64 (a0 : Int)) ∧ u.cell? ⟨fb, i * 5 + 3, none⟩ = some (.slice fx[i].io F[i].items.length fx[i].ic) ∧ u.cell? ⟨fb, i * 5 + 4, none⟩ = some (.slice none 0 0)) := hide (fun u hu => by
                obtain ⟨_, y2⟩ := hu.atD i _ (unhide HXK)
                have z0 := y2 0 (by omega)
                have z1 := y2 1 (by omega)
                have z2 := y2 2 (by omega)
                have z3 := y2 3 (by omega)
                have z4 := y2 4 (by omega)
                simp only [FrM.cells, hfe, e1, e3, e6] at z0 z1 z2 z3 z4
                exact ⟨z0, z1, z2, z3, z4⟩)
              have HNX : Hid (∀ (l1 l2 : Bool), DT K n E g st0 d0 F (i + 1) (frStep K st ((g : Int) + 1) a0 F[i].items.length l1 l2)) := hide (fun l1 l2 => (unhide HD).1.dt.next (by omega) (by omega) (by omega) (fun e => ((unhide HFST).1 e).1) (fun e => ((unhide HFST).2 e).1) hil e6 ⟨e7, e8, e9⟩ l1 l2)
              clear e1 e2 e3 e4 e6 x2 hfe
              generalize fx[i] = x at *
              generalize F[i] = f at *
              obtain ⟨L, hL⟩ : ∃ L, f.items.length = L := ⟨_, rfl⟩
              rw [hL] at u3 e5 e8 e9 HUC HNX
              have HLL := hide hL
              clear hL
              obtain ⟨W5, hW5⟩ : ∃ W5, W5 = wr := ⟨_, rfl⟩
              subst hW5
              have HML : Hid (a0 + L ≤ st.ms.length ∧ st.ms.length = n + 1) := hide (by have := (unhide HD).1.dt.di.len; omega)
              have HEA := hide (unhide HD).1.dt.di.each
              have hLI : (L : Int) ≤ 8 := by omega
              have haI : (a0 : Int) + (L : Int) ≤ (n : Int) + 1 := by omega
              have hKI : 1 ≤ (K : Int) ∧ (K : Int) ≤ 4 := by omega
              obtain ⟨hKI1, hKI2⟩ := hKI
              go_wp2
              go_loopw [28, 29] (fun v28 v29 wk => ∃ mm : Nat, mm ≤ L ∧ v28 = .bool (mustF K st.ms a0 mm) ∧ v29 = .int .i64 (mm : Int) ∧ W5 = wk) (fun _ v29 _ => L - (intOf v29).toNat)
              case atStart => exact ⟨0, Nat.zero_le _, by simp [mustF], rfl, rfl⟩
              case round =>
                obtain ⟨mm, hmm, rfl, rfl, rfl⟩ := hrel
                by_cases hml : mm < L
                · have hmI : (mm : Int) < (L : Int) := by omega
                  have cm := ((unhide HD).1.dm.cell (a0 + mm) (by have := (unhide HML).1; omega)).1
                  have HMS := hide (mustF_step K st.ms a0 mm)
                  have hv0 := unhide HEA (a0 + mm)
                  generalize st.ms.getD (a0 + mm) 0 = v at *
                  obtain ⟨hv1, hv2⟩ := hv0
                  cases hmu : mustF K st.ms a0 mm with
                  | true =>
                    have HMU := hide hmu
                    clear hmu
                    go_wp2
                    exact ⟨⟨mm + 1, by omega, by rw [unhide HMS, unhide HMU]; rfl, by go_num, trivial⟩, by simp [intOf]; omega⟩
                  | false =>
                    have HMU := hide hmu
                    clear hmu
                    go_wp2
                    exact ⟨⟨mm + 1, by omega, by rw [unhide HMS, unhide HMU, Bool.false_or], by go_num, trivial⟩, by simp [intOf]; omega⟩
                · have e : L = mm := by omega
                  subst e
                  obtain ⟨MU, hMU⟩ : ∃ MU, mustF (K : Int) st.ms a0 L = MU := ⟨_, rfl⟩
                  rw [hMU]
                  have HMU := hide hMU
                  clear hMU hml hmm
                  have HFW : Hid (Fr (fun _ => False) w W5) := hide (unhide HD).1.dm.fr
                  have haB : (a : Int) ≤ 1200000 := by have := (unhide HD).1.at_; omega
                  go_upto_region 30 with (fail)
                  go_cut [30] from 146 to 161 (fun v wc => v = .bool (!MU && lossB ls a) ∧ W5 = wc)
                  case first =>
                    cases MU with
                    | true =>
                      go_wp2
                      go_meet
                      exact ⟨rfl, rfl⟩
                    | false =>
                      by_cases hls : 0 < ls.length
                      · have hlsI : (0 : Int) < (ls.length : Int) := by omega
                        obtain ⟨lb, lo2, e, hc⟩ := (unhide HL).cells hls
                        subst e
                        have hlt : a % ls.length < ls.length := Nat.mod_lt _ hls
                        have hb := hc (a % ls.length) hlt
                        have cb : W5.cell? ⟨lb, lo2 + a % ls.length, none⟩ = some (.bool ls[a % ls.length]) := ((unhide HFW).cell (World.block_lt_of_cell? _ _ hb) (fun t => t)).trans hb
                        have hmod : (a : Int).tmod (ls.length : Int) = ((a % ls.length : Nat) : Int) := by rw [Int.tmod_eq_emod_of_nonneg (by omega)]; exact (Int.natCast_emod _ _).symm
                        have HLB : Hid (lossB ls a = ls[a % ls.length]) := hide (by unfold lossB; rw [List.getD_eq_getElem?_getD, List.getElem?_eq_getElem hlt]; rfl)
                        clear hc hb
                        generalize ls[a % ls.length] = bb at *
                        generalize a % ls.length = r at *
                        have hrI : (r : Int) < (ls.length : Int) := by omega
                        go_wp2
                        go_meet
                        exact ⟨by rw [unhide HLB]; rfl, rfl⟩
                      · have hlz : ls.length = 0 := by omega
                        have HLB : Hid (lossB ls a = false) := hide (by unfold lossB; rw [List.eq_nil_of_length_eq_zero hlz]; rfl)
                        have hls2 : decide ((0 : Int) < (ls.length : Int)) = false := decide_eq_false (by omega)
                        go_wp2
                        go_meet
                        exact ⟨by rw [unhide HLB]; rfl, rfl⟩
                  case rest =>
                    obtain ⟨rfl, rfl⟩ := hcut
                    obtain ⟨D1, hD1⟩ : ∃ D1, (!MU && lossB ls a) = D1 := ⟨_, rfl⟩
                    rw [hD1]
                    have HD1 : Hid ((!mustF (K : Int) st.ms a0 L && lossB ls a) = D1) := hide (by rw [unhide HMU]; exact hD1)
                    clear hD1
                    cases D1 with
                    | true =>
                      go_wp2
                      go_loopw [31] (fun vm wk => ∃ mm : Nat, mm ≤ L ∧ vm = .int .i64 (mm : Int) ∧ Hid (DM w WI M p m q mb S' st.R (msUp true st.ms a0 mm) wk ∧ FL MT wk (some ⟨fb, 0, none⟩) fc fb fx)) (fun vm _ => L - (intOf vm).toNat)
                      case atStart => exact ⟨0, Nat.zero_le _, rfl, hide ⟨(unhide HD).1.dm, (unhide HD).1.fl⟩⟩
                      case round =>
                        obtain ⟨mm, hmm, rfl, HU⟩ := hrel
                        clear u0 u1 u2 u3 u4
                        obtain ⟨u0, u1, u2, u3, u4⟩ := unhide HUC wr (unhide HU).2
                        by_cases hml : mm < L
                        · have hmI : (mm : Int) < (L : Int) := by omega
                          have hcm := (unhide HU).1.cell (a0 + mm) (by rw [msUp_length]; have := (unhide HML).1; omega)
                          rw [msUp_at true st.ms a0 mm (by have := (unhide HML).1; omega), if_neg (by omega)] at hcm
                          obtain ⟨cm, fm⟩ := hcm
                          have hpu := (unhide HU).1.put (a0 + mm) (st.ms.getD (a0 + mm) 0 + 1)
                          have HZ : Hid (DM w WI M p m q mb S' st.R (msUp true st.ms a0 (mm + 1)) (wr.setCell ⟨mb, a0 + mm, none⟩ (.int .i64 (st.ms.getD (a0 + mm) 0 + 1))) ∧ FL MT (wr.setCell ⟨mb, a0 + mm, none⟩ (.int .i64 (st.ms.getD (a0 + mm) 0 + 1))) (some ⟨fb, 0, none⟩) fc fb fx) := hide ⟨hpu, (unhide HU).2.frame (S := fun k => k = mb) (Fr.setCell (S := fun k => k = mb) (Fr.refl _ _) (p := ⟨mb, a0 + mm, none⟩) (fun _ => rfl) _) (fun k t => by have t : k = mb := t; have := (unhide HD).1.lt; omega)⟩
                          have hv0 := unhide HEA (a0 + mm)
                          clear hpu
                          generalize st.ms.getD (a0 + mm) 0 = v at *
                          obtain ⟨hv1, hv2⟩ := hv0
                          go_wp2
                          exact ⟨⟨mm + 1, by omega, by go_num, HZ⟩, by simp [intOf]; omega⟩
                        · have e : L = mm := by omega
                          subst e
                          have HFS : Hid (frStep K st ((g : Int) + 1) a0 L (lossB ls a) false = { st with ms := msUp true st.ms a0 L }) := hide (by unfold frStep; rw [if_pos (unhide HD1)])
                          have HDN : Hid (DF w WI M p m q mb K E n g S' st0 d0 F MT (some ⟨fb, 0, none⟩) fc fb fx t (i + 1) (a + 1) { st with ms := msUp true st.ms a0 L } wr) := hide ⟨(unhide HU).1, by rw [← unhide HFS]; exact unhide HNX _ _, (unhide HU).2, by have := (unhide HD).1.at_; omega, (unhide HD).1.lt⟩
                          clear hml hmm
                          go_wp2
                          exact ⟨⟨i + 1, a + 1, mA, g', _, by omega, rfl, by go_num, rfl, by go_num, hide ⟨unhide HDN, (unhide HD).2⟩⟩, by simp [intOf]; omega⟩
                    | false =>
                      go_wp2
                      go_loopw [31] (fun vm wk => ∃ mm : Nat, mm ≤ L ∧ vm = .int .i64 (mm : Int) ∧ Hid (DM w WI M p m q mb S' st.R (msUp false st.ms a0 mm) wk ∧ FL MT wk (some ⟨fb, 0, none⟩) fc fb fx)) (fun vm _ => L - (intOf vm).toNat)
                      case atStart => exact ⟨0, Nat.zero_le _, rfl, hide ⟨(unhide HD).1.dm, (unhide HD).1.fl⟩⟩
                      case round =>
                        obtain ⟨mm, hmm, rfl, HU⟩ := hrel
                        clear u0 u1 u2 u3 u4
                        obtain ⟨u0, u1, u2, u3, u4⟩ := unhide HUC wr (unhide HU).2
                        by_cases hml : mm < L
                        · have hmI : (mm : Int) < (L : Int) := by omega
                          have hcm := (unhide HU).1.cell (a0 + mm) (by rw [msUp_length]; have := (unhide HML).1; omega)
                          obtain ⟨cm, fm⟩ := hcm
                          have HZ : Hid (DM w WI M p m q mb S' st.R (msUp false st.ms a0 (mm + 1)) (wr.setCell ⟨mb, a0 + mm, none⟩ (.int .i64 0)) ∧ FL MT (wr.setCell ⟨mb, a0 + mm, none⟩ (.int .i64 0)) (some ⟨fb, 0, none⟩) fc fb fx) := hide ⟨(unhide HU).1.put (a0 + mm) 0, (unhide HU).2.frame (S := fun k => k = mb) (Fr.setCell (S := fun k => k = mb) (Fr.refl _ _) (p := ⟨mb, a0 + mm, none⟩) (fun _ => rfl) _) (fun k t => by have t : k = mb := t; have := (unhide HD).1.lt; omega)⟩
                          generalize (msUp false st.ms a0 mm).getD (a0 + mm) 0 = v at *
                          go_wp2
                          exact ⟨⟨mm + 1, by omega, by go_num, HZ⟩, by simp [intOf]; omega⟩
                        · have e : L = mm := by omega
                          subst e
                          clear hml hmm
                          obtain ⟨W6, hW6⟩ : ∃ W6, W6 = wr := ⟨_, rfl⟩
                          subst hW6
                          have HRB : Hid (0 ≤ st.R ∧ st.R ≤ 4294967296) := hide (by have := (unhide HD).1.dt.di.R; omega)
                          have HRV : Hid (1 ≤ recvF st.R ((g : Int) + 1) a0 L ∧ recvF st.R ((g : Int) + 1) a0 L ≤ (n : Int) + 1) := hide (recvF_in (unhide HD).1.dt.di.R (by omega) (by omega))
                          have HGT : Hid (Calls Tryd.prog 8 #[.pointer (some ⟨q, 0, none⟩), .agg #[.int .i64 1, .int .i64 ((g : Int) + 1), .int .i64 (a0 : Int), .slice x.io L x.ic, .slice none 0 0]] W6 fun e w' => ∃ ro rc, e = .returned (.slice ro (gotF st.R f).2.length rc) ∧ Hid (RV w' q (gotF st.R f).1 ∧ (∀ u, Fr (fun k => k < W6.heap.size) w' u → ItsAt u ro (gotF st.R f).2) ∧ Fr (fun k => k = q) W6 w' ∧ (gotF st.R f).2.length ≤ rc)) := hide (by
                            obtain ⟨e1, e2, e3, e4, e10⟩ := unhide HEE
                            have hgt := got_fresh (unhide HU).1.rv (unhide HRB) f x.io x.ic none 0 (fun u hu => by
                              have h1 := ((unhide HU).2.frame hu (fun k t => by have t : k = q := t; have := (unhide HD).1.lt; omega)).ok x (List.mem_of_getElem? (unhide HXK))
                              have h2 := h1.atD (by rw [e10, unhide HLL]; omega)
                              rw [e10] at h2
                              exact h2) e1 e2
                            have hcl : f.cells x.io x.ic none 0 = #[.int .i64 1, .int .i64 ((g : Int) + 1), .int .i64 (a0 : Int), .slice x.io L x.ic, .slice none 0 0] := by
                              unfold Fm.cells
                              rw [e1, e3, unhide HSQ, unhide HLL, e4]
                              rfl
                            rw [hcl] at hgt
                            exact hgt)
                          have HGR : Hid ((gotF st.R f).1 = max st.R ((g : Int) + 1) ∧ ((gotF st.R f).2 = [] → recvF st.R ((g : Int) + 1) a0 L = max st.R ((g : Int) + 1)) ∧ (∀ y, (gotF st.R f).2.getLast? = some y → takeF (max st.R ((g : Int) + 1)) y.seq = recvF st.R ((g : Int) + 1) a0 L) ∧ (gotF st.R f).2.length ≤ 8) := hide (by
                            obtain ⟨e1, e2, e3, e4, e10⟩ := unhide HEE
                            have hgr := got_recv (R := st.R) e1 e2 (unhide HRB).1 (by rw [e3]; omega) (by rw [unhide HSQ, unhide HLL]; omega)
                            rw [e3, unhide HSQ, unhide HLL] at hgr
                            refine ⟨hgr.1, hgr.2.1, hgr.2.2, ?_⟩
                            have hgl := gotL_length (max st.R f.base) f.seq f.items
                            rw [unhide HLL] at hgl
                            unfold gotF
                            rw [if_pos ⟨e1, e2⟩]
                            simp only
                            split
                            · simp
                            · omega)
                          generalize gotF st.R f = G at *
                          obtain ⟨G1, GL⟩ := G
                          simp only at HGT HGR
                          obtain rfl : G1 = max st.R ((g : Int) + 1) := (unhide HGR).1
                          obtain ⟨gl, hgl⟩ : ∃ gl, GL.length = gl := ⟨_, rfl⟩
                          rw [hgl] at HGT
                          have hG8 : gl ≤ 8 := by have := (unhide HGR).2.2.2; omega
                          have HGL := hide hgl
                          clear hgl
                          go_wp2_with fail
                          refine (unhide HGT).mono ?_
                          rintro e w7 ⟨ro, rc, rfl, H7⟩
                          obtain ⟨r1, r2, r3, r4⟩ := unhide H7
                          have HM7 : Hid (DM w WI M p m q mb S' (max st.R ((g : Int) + 1)) (msUp false st.ms a0 L) w7 ∧ FL MT w7 (some ⟨fb, 0, none⟩) fc fb fx) := hide ⟨(unhide HU).1.recv r3 r1, (unhide HU).2.frame r3 (fun k t => by have t : k = q := t; have := (unhide HD).1.lt; omega)⟩
                          have HI7 := hide r2
                          clear H7 r1 r2 r3 r4 HGT u0 u1 u2 u3 u4
                          go_upto_if 205 with (fail)
                          go_cut [] from 206 to 214 (fun wc => Hid (DM w WI M p m q mb S' (recvF st.R ((g : Int) + 1) a0 L) (msUp false st.ms a0 L) wc ∧ FL MT wc (some ⟨fb, 0, none⟩) fc fb fx))
                          case first =>
                            cases gl with
                            | zero =>
                              have HE7 : Hid (recvF st.R ((g : Int) + 1) a0 L = max st.R ((g : Int) + 1)) := hide ((unhide HGR).2.1 (List.eq_nil_of_length_eq_zero (unhide HGL)))
                              go_wp2
                              go_meet
                              rw [unhide HE7]
                              exact HM7
                            | succ kk =>
                              have hkk : GL.length = kk + 1 := unhide HGL
                              have hk8 : (kk : Int) ≤ 8 := by omega
                              obtain ⟨lb, lo3, e, hc⟩ := (unhide HI7 w7 (Fr.refl _ _)).cells (by omega)
                              subst e
                              have l6 := (hc kk (by omega)).1
                              have HTK : Hid (takeF (max st.R ((g : Int) + 1)) (GL[kk]'(by omega)).seq = recvF st.R ((g : Int) + 1) a0 L) := hide ((unhide HGR).2.2.1 _ (by rw [List.getLast?_eq_getElem?, show GL.length - 1 = kk by omega]; exact List.getElem?_eq_getElem (by omega)))
                              clear hc
                              generalize (GL[kk]'(by omega)).seq = sy at *
                              have y1 : decide (((kk + 1 : Nat) : Int) > 0) = true := decide_eq_true (by omega)
                              clear hkk
                              go_wp2_with fail
                              refine (take_any (unhide HM7).1.rv sy).mono ?_
                              rintro e w8 ⟨rfl, t1, t2, t3⟩
                              rw [unhide HTK] at t1
                              have HM8 : Hid (DM w WI M p m q mb S' (recvF st.R ((g : Int) + 1) a0 L) (msUp false st.ms a0 L) w8 ∧ FL MT w8 (some ⟨fb, 0, none⟩) fc fb fx) := hide ⟨(unhide HM7).1.recv t2 t1, (unhide HM7).2.frame t2 (fun k t => by have t : k = q := t; have := (unhide HD).1.lt; omega)⟩
                              clear t1 t2 t3 l6
                              go_wp2
                              go_meet
                              exact HM8
                          case rest =>
                            have HM8 := hcut
                            clear hcut HM7 HI7 HGR
                            have HRD : Hid (recvF st.R ((g : Int) + 1) a0 L = recvF st.R ((g : Int) + 1) a0 L) := hide rfl
                            obtain ⟨R', hR'⟩ : ∃ R', recvF st.R ((g : Int) + 1) a0 L = R' := ⟨_, rfl⟩
                            rw [hR'] at HRV HM8
                            have HR' := hide hR'
                            obtain ⟨rr, hrr⟩ : ∃ rr : Nat, R' = (rr : Int) + 1 := ⟨(R' - 1).toNat, by have := (unhide HRV).1; omega⟩
                            have hrI : (rr : Int) ≤ (n : Int) := by have := (unhide HRV).2; omega
                            have HRR := hide hrr
                            clear hR' hrr HRD
                            go_wp2_with fail
                            refine (ack_some (unhide HM8).1.rv (by have := (unhide HRV).1; omega) (by have := (unhide HRV).2; omega)).mono ?_
                            rintro e w9 ⟨rfl, h9⟩
                            rw [show R' - 1 = (rr : Int) by have := unhide HRR; omega]
                            have HF9 := hide ((Fr.refl (fun _ => False) w9).alloc (.cells #[.int .i64 2, .int .i64 0, .int .i64 (rr : Int), .slice none 0 0, .slice none 0 0] 39))
                            have HM9 := hide (And.intro (((unhide HM8).1.keep (unhide h9)).keep (unhide HF9)) (((unhide HM8).2.frame (unhide h9) (fun _ t => t.elim)).frame (unhide HF9) (fun _ t => t.elim)))
                            have HA9 := hide (Bx.new w9 #[.int .i64 2, .int .i64 0, .int .i64 (rr : Int), .slice none 0 0, .slice none 0 0] 39)
                            clear h9 HF9 HM8
                            go_upto_region 43 with (fail)
                            generalize w9.alloc (.cells #[.int .i64 2, .int .i64 0, .int .i64 (rr : Int), .slice none 0 0, .slice none 0 0] 39) = wA at *
                            generalize w9.heap.size = Z at *
                            have hmAI : (mA : Int) ≤ 3 := by have := (unhide HD).1.dt.di.mA; have := (unhide HD).2.2; omega
                            have z2 : wA.cell? ⟨Z, 2, none⟩ = some (.int .i64 (rr : Int)) := (unhide HA9).cell 2
                            have HFA : Hid (Fr (fun _ => False) w wA) := hide (unhide HM9).1.fr
                            go_cut [30] from 220 to 237 (fun v wc => v = .bool (decide ((mA : Int) < (K : Int) - 1) && lossB ls (a + 1)) ∧ wA = wc)
                            case first =>
                              by_cases hmk : (mA : Int) < (K : Int) - 1
                              · have HMK2 : Hid (decide ((mA : Int) < (K : Int) - 1) = true) := hide (decide_eq_true hmk)
                                by_cases hls : 0 < ls.length
                                · have hlsI : (0 : Int) < (ls.length : Int) := by omega
                                  obtain ⟨lb, lo2, e, hc⟩ := (unhide HL).cells hls
                                  subst e
                                  have hlt : (a + 1) % ls.length < ls.length := Nat.mod_lt _ hls
                                  have hb := hc ((a + 1) % ls.length) hlt
                                  have cb : wA.cell? ⟨lb, lo2 + (a + 1) % ls.length, none⟩ = some (.bool ls[(a + 1) % ls.length]) := ((unhide HFA).cell (World.block_lt_of_cell? _ _ hb) (fun t => t)).trans hb
                                  have hmod : ((a : Int) + 1).tmod (ls.length : Int) = (((a + 1) % ls.length : Nat) : Int) := by rw [Int.tmod_eq_emod_of_nonneg (by omega)]; exact (Int.natCast_emod _ _).symm
                                  have HLB : Hid (lossB ls (a + 1) = ls[(a + 1) % ls.length]) := hide (by unfold lossB; rw [List.getD_eq_getElem?_getD, List.getElem?_eq_getElem hlt]; rfl)
                                  clear hc hb
                                  generalize ls[(a + 1) % ls.length] = bb at *
                                  generalize (a + 1) % ls.length = r at *
                                  have hrI : (r : Int) < (ls.length : Int) := by omega
                                  go_wp2
                                  go_meet
                                  exact ⟨by rw [unhide HLB, unhide HMK2]; rfl, rfl⟩
                                · have hlz : ls.length = 0 := by omega
                                  have HLB : Hid (lossB ls (a + 1) = false) := hide (by unfold lossB; rw [List.eq_nil_of_length_eq_zero hlz]; rfl)
                                  have hls2 : decide ((0 : Int) < (ls.length : Int)) = false := decide_eq_false (by omega)
                                  go_wp2
                                  go_meet
                                  exact ⟨by rw [unhide HLB, unhide HMK2]; rfl, rfl⟩
                              · have hmk2 : decide ((mA : Int) < (K : Int) - 1) = false := decide_eq_false hmk
                                have HMK2 := hide hmk2
                                go_wp2
                                go_meet
                                exact ⟨by rw [unhide HMK2]; rfl, rfl⟩
                            case rest =>
                              obtain ⟨rfl, rfl⟩ := hcut
                              obtain ⟨D2, hD2⟩ : ∃ D2, (decide ((mA : Int) < (K : Int) - 1) && lossB ls (a + 1)) = D2 := ⟨_, rfl⟩
                              rw [hD2]
                              have HD2 : Hid ((decide (st.mA < (K : Int) - 1) && lossB ls (a + 1)) = D2) := hide (by rw [(unhide HD).2.2]; exact hD2)
                              clear hD2
                              cases D2 with
                              | true =>
                                have HFS : Hid (frStep K st ((g : Int) + 1) a0 L (lossB ls a) (lossB ls (a + 1)) = ⟨R', st.mA + 1, st.g, msUp false st.ms a0 L⟩) := hide (by unfold frStep; rw [if_neg (by rw [unhide HD1]; simp), if_pos (unhide HD2), unhide HR'])
                                have HDN : Hid (DF w WI M p m q mb K E n g S' st0 d0 F MT (some ⟨fb, 0, none⟩) fc fb fx t (i + 1) (a + 2) ⟨R', st.mA + 1, st.g, msUp false st.ms a0 L⟩ wA) := hide ⟨(unhide HM9).1, by rw [← unhide HFS]; exact unhide HNX _ _, (unhide HM9).2, by have := (unhide HD).1.at_; omega, (unhide HD).1.lt⟩
                                go_wp2
                                exact ⟨⟨i + 1, a + 2, mA + 1, g', _, by omega, by go_num, by go_num, rfl, by go_num, hide ⟨unhide HDN, (unhide HD).2.1, by show st.mA + 1 = ((mA + 1 : Nat) : Int); have := (unhide HD).2.2; omega⟩⟩, by simp [intOf]; omega⟩
                              | false =>
                                have HFS : Hid (frStep K st ((g : Int) + 1) a0 L (lossB ls a) (lossB ls (a + 1)) = ⟨R', 0, max st.g (R' - 1), msUp false st.ms a0 L⟩) := hide (by unfold frStep; rw [if_neg (by rw [unhide HD1]; simp), if_neg (by rw [unhide HD2]; simp), unhide HR'])
                                have HDN : Hid (DF w WI M p m q mb K E n g S' st0 d0 F MT (some ⟨fb, 0, none⟩) fc fb fx t (i + 1) (a + 2) ⟨R', 0, max st.g (R' - 1), msUp false st.ms a0 L⟩ wA) := hide ⟨(unhide HM9).1, by rw [← unhide HFS]; exact unhide HNX _ _, (unhide HM9).2, by have := (unhide HD).1.at_; omega, (unhide HD).1.lt⟩
                                have hmx : max (g' : Int) (rr : Int) = ((max g' rr : Nat) : Int) := by omega
                                go_wp2
                                exact ⟨⟨i + 1, a + 2, 0, max g' rr, _, by omega, rfl, by go_num, by (first | rfl | rw [hmx] | go_num), by go_num, hide ⟨unhide HDN, by show max st.g (R' - 1) = ((max g' rr : Nat) : Int); have := (unhide HD).2.1; have := unhide HRR; omega, rfl⟩⟩, by simp [intOf]; omega⟩
            · obtain rfl : i = F.length := by omega
              have HDE := hide (unhide HEND st wr a (unhide HD).1.dt (unhide HD).1.dm (by have := (unhide HD).1.at_; omega))
              go_wp2
              exact ⟨⟨t + 1, a, g', mA, S', st, by omega, rfl, rfl, rfl, by go_num, hide ⟨unhide HDE, (unhide HD).2⟩⟩, by simp [intOf]; omega⟩
        · have hgI : ¬ (g : Int) < (n : Int) := by omega
          have hge : g = n := by have := (unhide HK).1.di.g.2; have := (unhide HK).2.1; omega
          subst hge
          by_cases htl : t < m4 + m6
          · have htI : (t : Int) < (m4 : Int) + (m6 : Int) := by omega
            go_wp2
            go_ret
            exact ⟨rfl, (unhide HK).1.dm.fr⟩
          · have htI : ¬ (t : Int) < (m4 : Int) + (m6 : Int) := by omega
            go_wp2
            go_ret
            exact ⟨rfl, (unhide HK).1.dm.fr⟩

end Go.Proofs.YtabhfeocelljdaaDoor

