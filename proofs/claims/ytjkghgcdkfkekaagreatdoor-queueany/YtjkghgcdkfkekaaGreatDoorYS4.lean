import Derived.Test.YtjkghgcdkfkekaaGreatDoorYS3
import Derived.Test.YtjkghgcdkfkekaaGreatDoorQXG
import Derived.Test.YtjkghgcdkfkekaaGreatDoorYOX
import Derived.Test.YtjkghgcdkfkekaaGreatDoorQXH
/- The walk of QueueAny. -/
namespace Go.Proofs.YtjkghgcdkfkekaaGreatDoor
open Go.RowKit

theorem i64_and31q (n : Int) : bits .and .i64 n 31 = n % 32 := by
  have h31 : (BitVec.ofInt 64 31).toNat = 2 ^ 5 - 1 := by decide
  have key : (BitVec.ofInt 64 n &&& BitVec.ofInt 64 31).toNat = (n % ((2 ^ 64 : Nat) : Int)).toNat % 2 ^ 5 := by
    rw [BitVec.toNat_and, BitVec.toNat_ofInt, h31, Nat.and_two_pow_sub_one_eq_mod]
  show IntKind.i64.wrap ((BitVec.ofInt 64 n &&& BitVec.ofInt 64 31).toNat : Nat) = n % 32
  rw [key, IntKind.wrap_i64]
  omega

/-- A disk with power on which nothing waits. -/
def Pla (w wr : World) (hp b n i : Nat) : Prop :=
  ∃ R d, Dn wr R hp b n d ∧ Ch w wr (fun _ => 0) R ∧ d.armed = false ∧ d.down = false ∧ d.wait = [] ∧ d.cnt ≤ i

theorem Pla.fr {w wr : World} {hp b n i : Nat} (h : Pla w wr hp b n i) : Fr (fun _ => False) w wr := by
  obtain ⟨R, d, D, c, h1⟩ := h
  exact c.fr.mono (fun k _ t => t rfl)
theorem Pla.keep {w wr w' : World} {hp b n i : Nat} (h : Pla w wr hp b n i) (hF : Fr (fun _ => False) wr w') : Pla w w' hp b n i := by
  obtain ⟨R, d, D, c, h1⟩ := h
  exact ⟨R, d, D.keep hF, c.keep hF, h1⟩
theorem Pla.mono {w wr : World} {hp b n i j : Nat} (h : Pla w wr hp b n i) (hij : i ≤ j) : Pla w wr hp b n j := by
  obtain ⟨R, d, D, c, h1, h2, h3, h4⟩ := h
  exact ⟨R, d, D, c, h1, h2, h3, by omega⟩
theorem Pla.plant {w wr : World} {hp b n i : Nat} (h : Pla w wr hp b n i) (hi : i < 576460752303423488) (z : Int) (bo : Option Addr) (bc : Nat) (bs : Bs) (hB : BAt wr bo bc bs) :
    Calls Tryz.prog 9 #[.pointer (some ⟨hp, 0, none⟩), .int .i64 z, .slice bo bs.length bc] wr fun e w' => e = .returned (.tuple #[]) ∧ Hid (Pla w w' hp b n (i + 1)) := by
  obtain ⟨R, d, D, c, h1, h2, h3, h4⟩ := h
  refine (plant_any wr R hp b d D.hand D.dk h3 (by omega) z bo bc bs hB).mono ?_
  rintro e w' ⟨he, R', k1, k2, k3⟩
  have hS : ∀ k, DS R k → R k ≠ 0 := fun k t => by have := t.1; omega
  have f : Fr (fun k => R k ≠ 0) wr w' := k3.mono (fun k _ t => hS k t)
  refine ⟨he, hide ?_⟩
  by_cases hin : 0 ≤ z ∧ z < (d.many : Int)
  · rw [if_pos hin] at k1
    exact ⟨R', _, D.turn k3 hS k2 (fun k hk t => by have := t.2; omega) k1 D.many, c.step k2 f, h1, h2, rfl, by show d.cnt + 1 ≤ i + 1; omega⟩
  · rw [if_neg hin] at k1
    exact ⟨R', d, D.turn k3 hS k2 (fun k hk t => by have := t.2; omega) k1 D.many, c.step k2 f, h1, h2, h3, by omega⟩

/-- A disk of it, and a queue opened there. -/
theorem Pla.open {w wr : World} {hp b n i lim : Nat} (h : Pla w wr hp b n i) (hl : Lim lim n) (hi : i + 180 * hlf n + 600000 < 576460752303423488) : Calls Tryz.prog 11 #[.pointer (some ⟨hp, 0, none⟩)] wr fun e w' => ∃ p, e = .returned (.pointer (some ⟨p, 0, none⟩)) ∧ Hid (Calls Tryz.prog 26 #[.pointer (some ⟨p, 0, none⟩), .int .i64 (lim : Int)] w' (QAny w hp b n lim (i + 180 * hlf n + 6))) := by
  have hF0 := h.fr
  obtain ⟨R, d, D, c, h1, h2, h3, h4⟩ := h
  refine D.disk.mono ?_
  rintro e w' ⟨R', p, he, k1, k2, k3, k4⟩
  have hpe : d.pot = d.cnt + d.wait.length := rfl
  exact ⟨p, he, hide (qopen_free k2 k1 hl h1 h2 h3 (by rw [hpe, h3]; simpa using h4) hi (hF0.trans k4 (fun _ _ t => t)) (fun k hk => by rw [k3 k (Nat.lt_of_lt_of_le hk hF0.size)]; exact c.up k hk))⟩

/-- The log that is opened first, and records written anew, whether they fit or not. -/
theorem Pla.rewrite {w wr : World} {hp b n lg p : Nat} {R : Nat → Nat} (P : PW w wr (fun _ => 0) R hp b p lg n [] 0 1 3000 20) (h4 : 4 ≤ n) (hm : n ≤ 1048576) (hh : hlf n ≤ 15) (ro : Option Addr) (rc : Nat) (rs : List Bs) (hR : RecsP (fun _ => True) w ro rc rs) :
    Calls Tryz.prog 28 #[.pointer (some ⟨lg, 0, none⟩), .slice ro rs.length rc] wr fun e w' => ∃ ev, e = .returned ev ∧ Hid (Pla w w' hp b n 10000) := by
  obtain ⟨d, G, h, a, h1, h2, h3, L, c⟩ := P
  have hF0 : Fr (fun _ => False) w wr := c.fr.mono (fun k _ t => t rfl)
  have hR' : RecsP (fun k => R k = 0) wr ro rc rs := ((hR.mono (Q := fun k => k < w.heap.size) (fun k hk _ => hk)).frame hF0 (fun _ _ t => t)).mono (fun k _ hk => by rw [c.up k hk])
  have hpe : d.pot = d.cnt + d.wait.length := rfl
  by_cases hfit : (strm rs).length ≤ 504 * hlf n
  · refine (L.rewrite h4 hm (by omega) (by omega) (by omega) ro rc rs hR' hfit).mono ?_
    rintro e w' ⟨r, R', G', g1, g2, hr, he, j1, j2, j3, j4, j5⟩
    have h0 : r.2 = false := by rw [hr]; exact Dk.run_free _ d h1
    have hf := Dk.run_flags (anewActs (2 + (1 - h) * hlf n) G' rs (1 - a) (hsec G' (1 - h))) d
    have hp := Dk.run_pot (anewActs (2 + (1 - h) * hlf n) G' rs (1 - a) (hsec G' (1 - h))) d
    have hn := nputs_hlf rs (hlf n) hfit
    rw [← hr] at hf hp
    rw [anewActs_length] at hp
    obtain ⟨L2, hw2⟩ := j5 h0
    have hpe2 : r.1.pot = r.1.cnt + r.1.wait.length := rfl
    exact ⟨_, he, hide ⟨R', r.1, j3, c.step j1 j2, hf.2.1.trans h1, L2.up, hw2, by omega⟩⟩
  · refine (L.rewriteFull ro rc rs hR' (by omega)).mono ?_
    rintro e w' ⟨he, hF⟩
    have hwl := L.lg.wl
    have hz : (strm ([] : List Bs)).length = 0 := by rw [strm_nil]; rfl
    rw [hz] at hwl
    exact ⟨_, he, hide ⟨R, d, L.dn.keep hF, c.keep hF, h1, L.up, List.eq_nil_of_length_eq_zero (by omega), by omega⟩⟩

theorem bat_more (w : World) : BAt (w.alloc (.cells #[.int .u8 109, .int .u8 111, .int .u8 114, .int .u8 101] 5 (4, 5))) (some ⟨w.heap.size, 0, none⟩) 4 [109, 111, 114, 101] := by
  have h := Row.mark w #[.int .u8 109, .int .u8 111, .int .u8 114, .int .u8 101] 5 [109, 111, 114, 101] 4 rfl (by decide) (by simp) (fun j hj => by
    have hj' : j < 4 := hj
    rcases (by omega : j = 0 ∨ j = 1 ∨ j = 2 ∨ j = 3) with rfl | rfl | rfl | rfl
    all_goals rfl)
  exact (h.bat (by simp)).2

set_option maxHeartbeats 4000000 in
set_option maxRecDepth 20000 in
theorem any_walk (w : World) (hT : TabAt w) (hE : ErrT w) (n0 : Int) (ro : Option Addr) (rc : Nat) (rs : List Bs) (hRs : RecsP (fun _ => True) w ro rc rs) (ao : Option Addr) (ac : Nat) (ps : List OpQ) (hO : OpqAt w ao ps) :
    Calls Tryz.prog 6 #[.int .i64 n0, .slice ro rs.length rc, .slice ao ps.length ac] w fun e w' => e = .returned (.bool true) ∧ Fr (fun _ => False) w w' := by
  have A := hide (awake10_any w hT hE)
  obtain ⟨k, hk⟩ : ∃ k : Nat, (k : Int) = n0 % 16 := ⟨(n0 % 16).toNat, by omega⟩
  have hk15 : k ≤ 15 := by omega
  have hand : bits .and .i64 n0 15 = (k : Int) := by rw [i64_and15, hk]
  have hkI : (k : Int) ≤ 15 := by omega
  obtain ⟨N, hN⟩ : ∃ N, N = 2 + 2 * qH (1 + k) + 0 := ⟨_, rfl⟩
  have hL : Lim (1 + k) N ∧ hlf N ≤ 15 := by rw [hN]; have h := lim_fresh (1 + k) 0 (by omega) (by omega) (by omega); exact ⟨h.1, h.2.2⟩
  have QS : Hid (∀ u : World, Calls Tryz.prog 27 #[.int .i64 (1 + (k : Int))] u fun e w' => e = .returned (.int .i64 (N : Int)) ∧ w' = u) := hide (fun u => by
    have h := qsec_any u ((1 + k : Nat) : Int)
    have hmay : mayQ ((1 + k : Nat) : Int) = true := by simp [mayQ]; omega
    rw [qsecF, hmay, if_pos rfl, Int.toNat_natCast] at h
    rw [show (1 + (k : Int)) = ((1 + k : Nat) : Int) by omega, show ((N : Nat) : Int) = 2 + 2 * (qH (1 + k) : Int) by omega]
    exact h)
  have HH := hide (And.intro hT (And.intro hE (And.intro hO (And.intro hRs (And.intro hL.1 (And.intro hL.2 hk15))))))
  have HF : Hid (∀ x, Fr (fun _ => False) w x → ErrT x) := hide (fun x hx => hE.later hx)
  have HPS : Hid (ps.length * 40 ≤ 140737488355328) := hide hO.small
  have hps : (ps.length : Int) ≤ 140737488355328 := by have := hO.small; omega
  have hsr : (rs.length : Int) ≤ 140737488355328 := by have := hRs.small; omega
  clear hT hE hO hL hN hk hk15 hRs
  go_enter Tryz.func6, Tryz.ntmps6
  go_wp2_with fail
  refine (unhide A).mono ?_
  rintro e w1 ⟨rfl, hF1⟩
  have HF1 := hide hF1
  clear A hF1
  go_wp2_with fail
  refine (unhide QS _).mono ?_
  rintro e w1 ⟨rfl, rfl⟩
  clear QS
  have H1 : Hid (Calls Tryz.prog 8 #[.int .i64 (N : Int)] w1 fun e w' => ∃ R' p b, e = .returned (.pointer (some ⟨p, 0, none⟩)) ∧ Hid (Dn w' R' p b N (Dk.new N) ∧ Ch w w' (fun _ => 0) R')) := by
    obtain ⟨hT, hE, hO, hRs, hl, hh, hk15⟩ := unhide HH
    have h := new_dn w1 (fun _ => 0) ⟨hT.later (unhide HF1), rfl⟩ (fun _ _ => rfl) N (by have := hl.max; omega)
    refine hide (h.mono ?_)
    rintro e w' ⟨R', p, b, rfl, h1, h2, h3⟩
    exact ⟨R', p, b, rfl, hide ⟨h1, (((Ch.refl w _).keep (unhide HF1)).calm h2 h3)⟩⟩
  go_wp2_with fail
  refine (unhide H1).mono ?_
  rintro e w2 ⟨R2, hp, b, rfl, HB⟩
  clear H1 HF1 hand
  have H2 : Hid (Calls Tryz.prog 11 #[.pointer (some ⟨hp, 0, none⟩)] w2 fun e w' => ∃ R' q, e = .returned (.pointer (some ⟨q, 0, none⟩)) ∧ Hid (Dsk w' R' q b N ∧ Dn w' R' hp b N (Dk.new N) ∧ Ch w w' (fun _ => 0) R')) := by
    obtain ⟨D, c⟩ := unhide HB
    refine hide (D.disk.mono ?_)
    rintro e w' ⟨R', q, he, k1, k2, k3, k4⟩
    exact ⟨R', q, he, hide ⟨k1, k2, c.calm k3 k4⟩⟩
  go_wp2_with fail
  refine (unhide H2).mono ?_
  rintro e w3 ⟨R3, q, rfl, HC⟩
  clear H2 HB
  have H3 : Hid (Calls Tryz.prog 10 #[.pointer (some ⟨q, 0, none⟩)] w3 fun e w' => ∃ lg xo xc, e = .returned (.tuple #[.pointer (some ⟨lg, 0, none⟩), .slice xo 0 xc, .nilIface]) ∧ Hid (Calls Tryz.prog 28 #[.pointer (some ⟨lg, 0, none⟩), .slice ro rs.length rc] w' fun e w' => ∃ ev, e = .returned ev ∧ Hid (Pla w w' hp b N 10000))) := by
    obtain ⟨hT, hE, hO, hRs, hl, hh, hk15⟩ := unhide HH
    obtain ⟨kd, D, c⟩ := unhide HC
    refine hide ((Dn.first (B := 0) D kd rfl rfl hl.four hl.max (Nat.le_refl _) (by omega) (hold_new0 _ rfl rfl) c).mono ?_)
    rintro e w' ⟨lg, xo, xc, he, R', _, _, P⟩
    obtain ⟨d, G, h, a, p1, p2, p3, p4, p5⟩ := P
    exact ⟨lg, xo, xc, he, hide (Pla.rewrite ⟨d, G, h, a, p1, by omega, by omega, p4, p5⟩ hl.four hl.max hh ro rc rs hRs)⟩
  go_wp2_with fail
  refine (unhide H3).mono ?_
  rintro e w4 ⟨lg, xo, xc, rfl, HD⟩
  clear H3 HC
  go_wp2_with fail
  refine (unhide HD).mono ?_
  rintro e w5 ⟨ev, rfl, HE⟩
  clear HD
  go_wp2
  go_loopw [12] (fun iv wr => ∃ i : Nat, i ≤ ps.length ∧ iv = .int .i64 (i : Nat) ∧ Hid (Pla w wr hp b N (10000 + i))) (fun iv _ => ps.length - (intOf iv).toNat)
  case atStart => exact ⟨0, Nat.zero_le _, rfl, HE⟩
  case round =>
    obtain ⟨i, hi, rfl, HR⟩ := hrel
    clear HE
    by_cases hlt : i < ps.length
    · have hI1 : (i : Int) < (ps.length : Int) := by omega
      obtain ⟨pb, po, hpa, hpc⟩ := (unhide HH).2.2.1.cells (by omega)
      subst hpa
      have hcl : ∀ u, Fr (fun _ => False) w u → ∀ j, j < 3 → u.cell? ⟨pb, po + i * 3 + j, none⟩ = (ps[i].vals)[j]? := fun u hu j hj => by
        have h := hpc i hlt j hj
        have hlt : pb < w.heap.size := by
          have hs : ((ps[i].vals)[j]?).isSome = true := by
            have : j < ps[i].vals.length := by simpa [OpQ.vals] using hj
            simp [this]
          rw [← h] at hs
          obtain ⟨u, hu⟩ := Option.isSome_iff_exists.1 hs
          exact World.block_lt_of_cell? _ _ hu
        exact (hu.cell (a := ⟨pb, po + i * 3 + j, none⟩) hlt (fun t => t)).trans h
      obtain ⟨x, hx⟩ : ∃ x, x = ps[i] := ⟨_, rfl⟩
      rw [← hx] at hcl
      have HQ : Hid (x.ok w) := by rw [hx]; exact hide ((unhide HH).2.2.1.ok i hlt)
      have HC : Hid (∀ u, Fr (fun _ => False) w u → u.cell? ⟨pb, po + i * 3 + 1, none⟩ = some (.int .i64 x.num) ∧ u.cell? ⟨pb, po + i * 3 + 2, none⟩ = some (.slice x.bo x.bs.length x.bc)) := hide (fun u hu => ⟨hcl u hu 1 (by omega), hcl u hu 2 (by omega)⟩)
      clear hx hpc hcl
      obtain ⟨m, hm⟩ : ∃ m : Nat, (m : Int) = x.num % 32 := ⟨(x.num % 32).toNat, by omega⟩
      have hwn : bits .and .i64 x.num 31 = (m : Int) := by rw [i64_and31q, ← hm]
      have hm31 : (m : Int) ≤ 31 := by omega
      clear hm
      have HRd := hide ((unhide HR).keep (Fr.refl _ _).drew)
      have PL := hide ((unhide HRd).plant (by have := unhide HPS; omega) (m : Int) x.bo x.bc x.bs ((unhide HQ).bytes.later (unhide HRd).fr))
      have hqb : (x.bs.length : Int) ≤ 140737488355328 := by have := (unhide HQ).bytes.2.2; omega
      go_upto_region 11 with (fail)
      go_region_held3 (fun u => u.cell? ⟨pb, po + i * 3 + 1, none⟩ = some (.int .i64 x.num) ∧ u.cell? ⟨pb, po + i * 3 + 2, none⟩ = some (.slice x.bo x.bs.length x.bc)) (first | exact unhide HC _ (unhide HR).fr | exact unhide HC _ (unhide HRd).fr | exact unhide HC _ (unhide H3).fr) (first | (go_at_call 9; refine (unhide PL).mono ?_; rintro e w6 ⟨rfl, H3⟩))
      clear PL HRd HR HC
      go_wp2
      exact ⟨⟨i + 1, by omega, by go_num, H3⟩, by simp [intOf]; omega⟩
    · obtain rfl : i = ps.length := by omega
      have hI1 : decide ((ps.length : Int) < (ps.length : Int)) = false := by simp
      have hI2 : decide (ps.length < ps.length) = false := by simp
      have HDK : Hid (Calls Tryz.prog 11 #[.pointer (some ⟨hp, 0, none⟩)] wr fun e w' => ∃ p, e = .returned (.pointer (some ⟨p, 0, none⟩)) ∧ Hid (Calls Tryz.prog 26 #[.pointer (some ⟨p, 0, none⟩), .int .i64 (1 + (k : Int))] w' (QAny w hp b N (1 + k) 4000000000000))) := by
        obtain ⟨hT, hE, hO, hRs, hl, hh, hk15⟩ := unhide HH
        have hps := unhide HPS
        have h := ((unhide HR).mono (j := 3900000000000) (by omega)).open hl (by omega)
        rw [show ((1 + k : Nat) : Int) = 1 + (k : Int) by omega] at h
        refine hide (h.mono ?_)
        rintro e w' ⟨p, he, hq⟩
        refine ⟨p, he, hide ((unhide hq).mono ?_)⟩
        rintro e w'' (h1 | ⟨qb, q, h1, h2⟩)
        · exact .inl h1
        · exact .inr ⟨qb, q, h1, hide ((unhide h2).mono (by omega) (Nat.le_refl _) (Nat.le_refl _))⟩
      go_wp2_with fail
      refine (unhide HDK).mono ?_
      rintro e w6 ⟨p, rfl, HO⟩
      clear HDK HR
      go_wp2_with fail
      refine (unhide HO).mono ?_
      rintro e w7 (⟨rfl, hF7⟩ | ⟨qb, q, rfl, HW⟩)
      · clear HO
        have hn0 := run_neq_errV w7 100
        have NU := hide (number_err w7 (unhide HF _ (unhide hF7)) 100)
        go_wp2_with fail
        refine (unhide NU).mono ?_
        rintro e w8 ⟨rfl, hF8⟩
        clear NU
        go_wp2
        go_ret
        exact ⟨rfl, (unhide hF7).trans hF8 (fun _ _ t => t)⟩
      · clear HO
        have hok := (unhide HW).ok
        have hm := hok.many
        have hla := hok.last
        have hle : q.last = q.acked + q.items.length := rfl
        have hm16 : q.items.length ≤ 1 + k := hm
        have hmI : (q.items.length : Int) ≤ 1 + (k : Int) := by omega
        have LN : Hid (∀ u, Fr (fun _ => False) w7 u → Calls Tryz.prog 29 #[.pointer (some ⟨qb, 0, none⟩)] u fun e w' => e = .returned (.int .i64 (q.items.length : Int)) ∧ w' = u) := hide (fun u hu => ((unhide HW).keep stable_true hu).len)
        have AC : Hid (∀ u, Fr (fun _ => False) w7 u → Calls Tryz.prog 32 #[.pointer (some ⟨qb, 0, none⟩)] u fun e w' => e = .returned (.int .i64 (q.acked : Int)) ∧ w' = u) := hide (fun u hu => ((unhide HW).keep stable_true hu).acked)
        have LA : Hid (∀ u, Fr (fun _ => False) w7 u → Calls Tryz.prog 31 #[.pointer (some ⟨qb, 0, none⟩)] u fun e w' => e = .returned (.int .i64 (q.last : Int)) ∧ Fr (fun _ => False) w7 w') := hide (fun u hu => by
          obtain ⟨R, O, p, l, d, G, k, a, rs, s, num, h1, h2, h3, h4, L, h5, h6, h7, h8⟩ := (unhide HW).keep stable_true hu
          exact (L.qm.last L.ok).mono (fun e w' t => ⟨t.1, hu.trans t.2 (fun _ _ t => t)⟩))
        have PK : Hid (∀ u, Fr (fun _ => False) w7 u → Calls Tryz.prog 30 #[.pointer (some ⟨qb, 0, none⟩), .int .i64 4096] u fun e w' => ∃ lo lc, e = .returned (.slice lo q.items.length lc) ∧ Fr (fun _ => False) w7 w') := hide (fun u hu => by
          have h := ((unhide HW).keep stable_true hu).peek stable_true (unhide HH).2.2.2.2.1 4096
          have e : q.items.take ((4096 : Int).toNat) = q.items := List.take_of_length_le (by have := (unhide HH).2.2.2.2.2.2; show _ ≤ 4096; omega)
          rw [e] at h
          refine h.mono ?_
          rintro e w' ⟨⟨lo, lc, gl, ga, vs, h1, _, _, h4, _⟩, _⟩
          exact ⟨lo, lc, h1, hu.trans h4 (fun _ _ t => t)⟩)
        have hwr : IntKind.i64.wrap ((q.acked : Int) + (q.items.length : Int)) = (q.last : Int) := by rw [IntKind.wrap_i64]; omega
        have hw64 : wrap64 ((q.acked : Int) + (q.items.length : Int)) = (q.last : Int) := by unfold wrap64; omega
        have hcs := fun (w : World) (C : Array Value) (n c : Nat) => Go.Lib.run_convert_bytes_const (P := Tryz.prog) w 28 5 C n c Tryz.underlying28 Tryz.underlying5
        have hgt : decide (1 + (k : Int) < (q.items.length : Int)) = false := by simp; omega
        have hgt2 : decide (1 + k < q.items.length) = false := by simp; omega
        have hnn : ((q.items.length : Int) != (q.items.length : Int)) = false := by simp
        have hll : ((q.last : Int) != (q.last : Int)) = false := by simp
        have PUT : Hid (∀ u, Fr (fun _ => False) w7 u → Calls Tryz.prog 23 #[.pointer (some ⟨qb, 0, none⟩), .slice (some ⟨u.heap.size, 0, none⟩) 4 4] (u.alloc (.cells #[.int .u8 109, .int .u8 111, .int .u8 114, .int .u8 101] 5 (4, 5))) fun e w' =>
            (e = .returned (.tuple #[.int .i64 ((q.last + 1 : Nat) : Int), .nilIface]) ∧ Hid (∃ q', q'.last = q.last + 1 ∧ QW w w' hp b qb N (1 + k) q' false 4000000003000 (140737488355328 + 1 + hlf N + 1 + hlf N) 2 (fun _ _ => True))) ∨
            (∃ en : Int, e = .returned (.tuple #[.int .i64 0, errV en]) ∧ Hid ((q.items.length = 1 + k ∨ q.last = 4294967295) ∧ QW w w' hp b qb N (1 + k) q false 4000000000000 (140737488355328 + 1 + hlf N) 1 (fun _ _ => True)))) := hide (fun u hu => by
          obtain ⟨hT, hE, hO, hRs, hl, hh, hk15⟩ := unhide HH
          have hQ := ((unhide HW).keep stable_true hu).keep stable_true ((Fr.refl _ u).alloc (.cells #[.int .u8 109, .int .u8 111, .int .u8 114, .int .u8 101] 5 (4, 5)))
          have hbt := bat_more u
          by_cases he : putE q (1 + k) [109, 111, 114, 101] = 0
          · refine (hQ.putOk stable_true hl (by omega) (by omega) (by omega) _ 4 [109, 111, 114, 101] hbt he).mono ?_
            rintro e w' ⟨he, h⟩
            exact .inl ⟨he, hide ⟨_, by simp [Qr.last]; omega, (unhide h).mono (by omega) (by omega) (by omega)⟩⟩
          · refine (hQ.putNo stable_true _ 4 [109, 111, 114, 101] hbt he).mono ?_
            rintro e w' ⟨he2, h⟩
            refine .inr ⟨_, he2, hide ⟨?_, unhide h⟩⟩
            unfold putE at he
            rw [if_neg (by decide)] at he
            by_cases h1 : 1 + k ≤ q.items.length
            · exact .inl (by omega)
            · rw [if_neg h1] at he
              by_cases h2 : 4294967295 ≤ q.last
              · exact .inr (by omega)
              · rw [if_neg h2] at he; exact absurd rfl he)
        have HQL := hide (And.intro hm16 (And.intro hla hle))
        clear hok hm hla hle hm16
        generalize hzz : q.items.length = z at *
        have HZ := hide hzz
        clear hzz
        generalize hzl : q.last = y at *
        have HY := hide hzl
        clear hzl
        go_wp2_with fail
        refine (unhide LN _ (Fr.refl _ _)).mono ?_
        rintro e w8 ⟨rfl, rfl⟩
        go_wp2_with fail
        refine (unhide LN _ (Fr.refl _ _)).mono ?_
        rintro e w8 ⟨rfl, rfl⟩
        go_wp2_with fail
        refine (unhide PK _ (Fr.refl _ _)).mono ?_
        rintro e w9 ⟨lo, lc, rfl, hF9⟩
        have HF9 := hide hF9
        clear hF9 PK
        go_wp2_with fail
        refine (unhide LA _ (unhide HF9)).mono ?_
        rintro e w10 ⟨rfl, hF10⟩
        have HF10 := hide hF10
        clear hF10 LA HF9
        go_wp2_with fail
        refine (unhide AC _ (unhide HF10)).mono ?_
        rintro e w11 ⟨rfl, rfl⟩
        clear AC
        go_wp2_with fail
        refine (unhide LN _ (unhide HF10)).mono ?_
        rintro e w12 ⟨rfl, rfl⟩
        clear LN
        go_wp2_with fail
        refine (unhide PUT _ (unhide HF10)).mono ?_
        rintro e w13 (⟨rfl, HP⟩ | ⟨en, rfl, HP⟩)
        · have LA2 : Hid (Calls Tryz.prog 31 #[.pointer (some ⟨qb, 0, none⟩)] w13 fun e w' => e = .returned (.int .i64 ((y + 1 : Nat) : Int)) ∧ Hid (Fr (fun _ => False) w w')) := by
            obtain ⟨q', h1, h2⟩ := unhide HP
            have h := h2.last stable_true
            rw [h1] at h
            exact hide (h.mono (fun e w' t => ⟨t.1, hide (unhide t.2).fr⟩))
          have hyy : (((y + 1 : Nat) : Int) == ((y + 1 : Nat) : Int)) = true := by simp
          clear PUT
          generalize ((y + 1 : Nat) : Int) = yy at *
          go_wp2_with fail
          refine (unhide LA2).mono ?_
          rintro e w14 ⟨rfl, hF14⟩
          clear LA2
          go_wp2
          go_ret
          exact ⟨rfl, unhide hF14⟩
        · have LN2 : Hid (Calls Tryz.prog 29 #[.pointer (some ⟨qb, 0, none⟩)] w13 fun e w' => e = .returned (.int .i64 (z : Int)) ∧ w' = w13) := by
            have h := (unhide HP).2.len
            rw [unhide HZ] at h
            exact hide h
          have LA2 : Hid (Calls Tryz.prog 31 #[.pointer (some ⟨qb, 0, none⟩)] w13 fun e w' => e = .returned (.int .i64 (y : Int)) ∧ Hid (Fr (fun _ => False) w w')) := by
            have h := (unhide HP).2.last stable_true
            rw [unhide HY] at h
            exact hide (h.mono (fun e w' t => ⟨t.1, hide (unhide t.2).fr⟩))
          have hn0 := run_eql_errV_nil w13 en
          have hn1 := run_neq_errV w13 en
          clear PUT
          go_wp2_with fail
          refine (unhide LN2).mono ?_
          rintro e w14 ⟨rfl, rfl⟩
          clear LN2
          by_cases hzk : z = 1 + k
          · have hz1 : ((z : Int) == 1 + (k : Int)) = true := by simp; omega
            clear hzk
            go_wp2
            go_ret
            exact ⟨rfl, (unhide HP).2.fr⟩
          · have hz1 : ((z : Int) == 1 + (k : Int)) = false := by simp; omega
            have hy : y = 4294967295 := (unhide HP).1.resolve_left hzk
            subst hy
            clear hzk
            go_wp2_with fail
            refine (unhide LA2).mono ?_
            rintro e w15 ⟨rfl, hF15⟩
            clear LA2
            go_wp2
            go_ret
            exact ⟨rfl, unhide hF15⟩

end Go.Proofs.YtjkghgcdkfkekaaGreatDoor

