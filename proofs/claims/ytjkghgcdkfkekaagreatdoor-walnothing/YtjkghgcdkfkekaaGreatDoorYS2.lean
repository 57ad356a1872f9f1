import Derived.Test.YtjkghgcdkfkekaaGreatDoorYS1
import Derived.Test.YtjkghgcdkfkekaaGreatDoorYWR
/- The walk of WalNothing. -/
namespace Go.Proofs.YtjkghgcdkfkekaaGreatDoor
open Go.RowKit

theorem i64_and63 (n : Int) : bits .and .i64 n 63 = n % 64 := by
  have h63 : (BitVec.ofInt 64 63).toNat = 2 ^ 6 - 1 := by decide
  have key : (BitVec.ofInt 64 n &&& BitVec.ofInt 64 63).toNat = (n % ((2 ^ 64 : Nat) : Int)).toNat % 2 ^ 6 := by
    rw [BitVec.toNat_and, BitVec.toNat_ofInt, h63, Nat.and_two_pow_sub_one_eq_mod]
  show IntKind.i64.wrap ((BitVec.ofInt 64 n &&& BitVec.ofInt 64 63).toNat : Nat) = n % 64
  rw [key, IntKind.wrap_i64]
  omega

theorem Dn.plant {w : World} {R : Nat → Nat} {hp b n : Nat} {d : Dk} (D : Dn w R hp b n d) (hw0 : d.wait = []) (hcnt : d.cnt < 576460752303423488) (z : Int) (bo : Option Addr) (bc : Nat) (bs : Bs) (hB : BAt w bo bc bs) :
    Calls Tryz.prog 9 #[.pointer (some ⟨hp, 0, none⟩), .int .i64 z, .slice bo bs.length bc] w fun e w' => e = .returned (.tuple #[]) ∧ ∃ R', Dn w' R' hp b n (if 0 ≤ z ∧ z < (d.many : Int) then d.plant z.toNat (fillS (bs.take 512)) else d) ∧ UpR w R R' ∧ Fr (fun k => R k ≠ 0) w w' := by
  refine (plant_any w R hp b d D.hand D.dk hw0 hcnt z bo bc bs hB).mono ?_
  rintro e w' ⟨he, R', h1, h2, h3⟩
  have hS : ∀ k, DS R k → R k ≠ 0 := fun k t => by have := t.1; omega
  refine ⟨he, R', D.turn h3 hS h2 (fun k hk t => by have := t.2; omega) h1 ?_, h2, h3.mono (fun k _ t => hS k t)⟩
  split
  · exact D.many
  · exact D.many

/-- A disk on which sectors were planted, none of the first two. -/
def Pld (w wr : World) (hp b n i : Nat) : Prop :=
  ∃ R d, Dn wr R hp b n d ∧ Ch w wr (fun _ => 0) R ∧ d.armed = false ∧ d.down = false ∧ d.wait = [] ∧ d.cnt ≤ i ∧ d.safe 0 = zeros 512 ∧ d.safe 1 = zeros 512

theorem Pld.fr {w wr : World} {hp b n i : Nat} (h : Pld w wr hp b n i) : Fr (fun _ => False) w wr := by
  obtain ⟨R, d, D, c, h1⟩ := h
  exact c.fr.mono (fun k _ t => t rfl)
theorem Pld.keep {w wr w' : World} {hp b n i : Nat} (h : Pld w wr hp b n i) (hF : Fr (fun _ => False) wr w') : Pld w w' hp b n i := by
  obtain ⟨R, d, D, c, h1⟩ := h
  exact ⟨R, d, D.keep hF, c.keep hF, h1⟩
theorem Pld.plant {w wr : World} {hp b n i : Nat} (h : Pld w wr hp b n i) (hi : i < 576460752303423488) (z : Int) (hz : 2 ≤ z) (bo : Option Addr) (bc : Nat) (bs : Bs) (hB : BAt wr bo bc bs) :
    Calls Tryz.prog 9 #[.pointer (some ⟨hp, 0, none⟩), .int .i64 z, .slice bo bs.length bc] wr fun e w' => e = .returned (.tuple #[]) ∧ Hid (Pld w w' hp b n (i + 1)) := by
  obtain ⟨R, d, D, c, h1, h2, h3, h4, h5, h6⟩ := h
  refine (D.plant h3 (by omega) z bo bc bs hB).mono ?_
  rintro e w' ⟨he, R', D', u, f⟩
  refine ⟨he, hide ?_⟩
  by_cases hin : 0 ≤ z ∧ z < (d.many : Int)
  · rw [if_pos hin] at D'
    refine ⟨R', _, D', c.step u f, h1, h2, rfl, by show d.cnt + 1 ≤ i + 1; omega, ?_, ?_⟩
    · show (if 0 = z.toNat then _ else d.safe 0) = _
      rw [if_neg (by omega)]; exact h5
    · show (if 1 = z.toNat then _ else d.safe 1) = _
      rw [if_neg (by omega)]; exact h6
  · rw [if_neg hin] at D'
    exact ⟨R', d, D', c.step u f, h1, h2, h3, by omega, h5, h6⟩
theorem Pld.disk {w wr : World} {hp b n i : Nat} (h : Pld w wr hp b n i) : Calls Tryz.prog 11 #[.pointer (some ⟨hp, 0, none⟩)] wr fun e w' => ∃ q, e = .returned (.pointer (some ⟨q, 0, none⟩)) ∧ Hid (∃ R d, Dsk w' R q b n ∧ Dn w' R hp b n d ∧ Ch w w' (fun _ => 0) R ∧ d.armed = false ∧ d.down = false ∧ d.pot ≤ i ∧ hold d.look = (0, 1, 1)) := by
  obtain ⟨R, d, D, c, h1, h2, h3, h4, h5, h6⟩ := h
  refine D.disk.mono ?_
  rintro e w' ⟨R', q, he, k1, k2, k3, k4⟩
  refine ⟨q, he, hide ⟨R', d, k1, k2, c.calm k3 k4, h1, h2, ?_, ?_⟩⟩
  · have : d.pot = d.cnt + d.wait.length := rfl
    rw [this, h3]; simpa using h4
  · have e1 : d.look = d.safe := by rw [Dk.look, h3, over_nil]
    rw [e1]
    exact hold_new0 _ h5 h6

set_option maxHeartbeats 4000000 in
set_option maxRecDepth 20000 in
theorem nothing_walk (w : World) (hT : TabAt w) (n0 : Int) (ao : Option Addr) (ac : Nat) (ps : List OpA) (hO : OpsAt w ao ps) (ro : Option Addr) (rc : Nat) (rs : List Bs) (hRs : RecsP (fun _ => True) w ro rc rs) :
    Calls Tryz.prog 3 #[.int .i64 n0, .slice ao ps.length ac, .slice ro rs.length rc] w fun e w' => e = .returned (.bool true) ∧ Fr (fun _ => False) w w' := by
  have A := awake9_any w hT
  obtain ⟨k, hk⟩ : ∃ k : Nat, n0 % 32 = (k : Int) := ⟨(n0 % 32).toNat, by omega⟩
  have hk31 : k ≤ 31 := by omega
  have hand : bits .and .i64 n0 31 = (k : Int) := (i64_and31 n0).trans hk
  have hkI : (k : Int) ≤ 31 := by omega
  have hh : hlf (4 + k) ≤ 16 := by unfold hlf; omega
  have hsm : (ps.length : Int) ≤ 140737488355328 := by have := hO.small; omega
  have HPS : Hid (ps.length * 96 ≤ 140737488355328) := hide hO.small
  have hsr : (rs.length : Int) ≤ 140737488355328 := by have := hRs.small; omega
  have HH := hide (And.intro hT (And.intro hO (And.intro hRs (And.intro hk31 hh))))
  have HA := hide A
  clear A hk hk31 hO hT hh hRs
  go_enter Tryz.func3, Tryz.ntmps3
  go_wp2_with fail
  refine (unhide HA).mono ?_
  rintro e w1 ⟨rfl, hF1⟩
  have HF1 := hide hF1
  clear HA hF1
  have H1 : Hid (Calls Tryz.prog 8 #[.int .i64 (4 + (k : Int))] w1 fun e w' => ∃ p b, e = .returned (.pointer (some ⟨p, 0, none⟩)) ∧ Hid (Pld w w' p b (4 + k) 0)) := by
    obtain ⟨hT, hO, hRs, hk31, hh⟩ := unhide HH
    have h := new_dn w1 (fun _ => 0) ⟨hT.later (unhide HF1), rfl⟩ (fun _ _ => rfl) (4 + k) (by omega)
    rw [show ((4 + k : Nat) : Int) = 4 + (k : Int) by omega] at h
    refine hide (h.mono ?_)
    rintro e w' ⟨R', p, b, rfl, h1, h2, h3⟩
    exact ⟨p, b, rfl, hide ⟨R', _, h1, (((Ch.refl w _).keep (unhide HF1)).calm h2 h3), rfl, rfl, rfl, Nat.le_refl _, rfl, rfl⟩⟩
  go_wp2_with fail
  refine (unhide H1).mono ?_
  rintro e w2 ⟨hp, b, rfl, HB⟩
  clear H1 HF1
  go_wp2
  go_loopw [10] (fun iv wr => ∃ i : Nat, i ≤ ps.length ∧ iv = .int .i64 (i : Nat) ∧ Hid (Pld w wr hp b (4 + k) i)) (fun iv _ => ps.length - (intOf iv).toNat)
  case atStart => exact ⟨0, Nat.zero_le _, rfl, HB⟩
  case round =>
    obtain ⟨i, hi, rfl, HR⟩ := hrel
    clear HB
    by_cases hlt : i < ps.length
    · have hI1 : (i : Int) < (ps.length : Int) := by omega
      obtain ⟨pb, po, hpa, hpc⟩ := (unhide HH).2.1.cells (by omega)
      subst hpa
      have hcl : ∀ u, Fr (fun _ => False) w u → ∀ j, j < 6 → u.cell? ⟨pb, po + i * 6 + j, none⟩ = (ps[i].vals)[j]? := fun u hu j hj => by
        have h := hpc i hlt j hj
        have hlt : pb < w.heap.size := by
          have hs : ((ps[i].vals)[j]?).isSome = true := by
            have : j < ps[i].vals.length := by simpa [OpA.vals] using hj
            simp [this]
          rw [← h] at hs
          obtain ⟨u, hu⟩ := Option.isSome_iff_exists.1 hs
          exact World.block_lt_of_cell? _ _ hu
        exact (hu.cell (a := ⟨pb, po + i * 6 + j, none⟩) hlt (fun t => t)).trans h
      obtain ⟨q, hq⟩ : ∃ q, q = ps[i] := ⟨_, rfl⟩
      rw [← hq] at hcl
      have HQ : Hid (q.ok w) := by rw [hq]; exact hide ((unhide HH).2.1.ok i hlt)
      have HC : Hid (∀ u, Fr (fun _ => False) w u → u.cell? ⟨pb, po + i * 6 + 1, none⟩ = some (.int .i64 q.num) ∧ u.cell? ⟨pb, po + i * 6 + 2, none⟩ = some (.slice q.bo q.bs.length q.bc)) := hide (fun u hu => ⟨hcl u hu 1 (by omega), hcl u hu 2 (by omega)⟩)
      clear hq hpc hcl
      obtain ⟨m, hm⟩ : ∃ m : Nat, (m : Int) = q.num % 64 := ⟨(q.num % 64).toNat, by omega⟩
      have hwn : bits .and .i64 q.num 63 = (m : Int) := by rw [i64_and63, ← hm]
      have hm63 : (m : Int) ≤ 63 := by omega
      clear hm
      obtain ⟨z, hz⟩ : ∃ z : Nat, z = 2 + m := ⟨_, rfl⟩
      have hwr : IntKind.i64.wrap (2 + (m : Int)) = (z : Int) := by rw [IntKind.wrap_i64]; omega
      have hw64 : wrap64 (2 + (m : Int)) = (z : Int) := by unfold wrap64; omega
      have HRd := hide ((unhide HR).keep (Fr.refl _ _).drew)
      have PL := hide ((unhide HRd).plant (by have := unhide HPS; omega) (z : Int) (by omega) q.bo q.bc q.bs ((unhide HQ).bytes.later (unhide HRd).fr))
      have hqb : (q.bs.length : Int) ≤ 140737488355328 := by have := (unhide HQ).bytes.2.2; omega
      clear hz
      go_upto_region 7 with (fail)
      go_region_held3 (fun u => u.cell? ⟨pb, po + i * 6 + 1, none⟩ = some (.int .i64 q.num) ∧ u.cell? ⟨pb, po + i * 6 + 2, none⟩ = some (.slice q.bo q.bs.length q.bc)) (first | exact unhide HC _ (unhide HR).fr | exact unhide HC _ (unhide HRd).fr | exact unhide HC _ (unhide H3).fr) (first | (go_at_call 9; refine (unhide PL).mono ?_; rintro e w3 ⟨rfl, H3⟩))
      clear PL HRd HR HC
      go_wp2
      exact ⟨⟨i + 1, by omega, by go_num, H3⟩, by simp [intOf]; omega⟩
    · obtain rfl : i = ps.length := by omega
      have hI1 : decide ((ps.length : Int) < (ps.length : Int)) = false := by simp
      have hI2 : decide (ps.length < ps.length) = false := by simp
      have HDK := hide (unhide HR).disk
      go_wp2_with fail
      refine (unhide HDK).mono ?_
      rintro e w3 ⟨q, rfl, HC⟩
      clear HDK HR
      have H3 : Hid (Calls Tryz.prog 10 #[.pointer (some ⟨q, 0, none⟩)] w3 fun e w' => ∃ lg ro rc, e = .returned (.tuple #[.pointer (some ⟨lg, 0, none⟩), .slice ro 0 rc, .nilIface]) ∧ Hid (BK w w' hp b (4 + k) (ps.length + 3000 * (0 + 1)) (20 * (0 + 1)) (0 + 1) lg none 0 [] [] [])) := by
        obtain ⟨hT, hO, hRs, hk31, hh⟩ := unhide HH
        obtain ⟨R, d, kd, D, c, a1, a2, a3, a4⟩ := unhide HC
        have hps := unhide HPS
        refine hide ((Dn.first (B := ps.length) D kd a1 a2 (by omega) (by omega) a3 (by omega) a4 c).mono ?_)
        rintro e w' ⟨lg, ro, rc, he, R', _, _, P⟩
        exact ⟨lg, ro, rc, he, hide ⟨R', q, 0, 0, 1, P.mono (by omega) (by omega), Nat.le_refl _, AllAt.nil _ _ _ _, Bxs.nil _ _ _ _⟩⟩
      go_wp2_with fail
      refine (unhide H3).mono ?_
      rintro e w4 ⟨lg, xo, xc, rfl, HD⟩
      clear H3 HC
      go_wp2
      go_loopw [11, 14, 15, 16, 17, 18, 19, 20] (fun v11 v14 iv _ _ _ _ _ wr => ∃ (i lg : Nat) (ao : Option Addr) (cap : Nat) (l : List Bs), i ≤ rs.length ∧ i ≤ 20 ∧ v11 = .pointer (some ⟨lg, 0, none⟩) ∧ v14 = .slice ao (List.length l) cap ∧ iv = .int .i64 (i : Nat) ∧ Hid (BK w wr hp b (4 + k) (ps.length + 3000 * (i + 1)) (20 * (i + 1)) (i + 1) lg ao cap l l [])) (fun _ _ iv _ _ _ _ _ _ => 20 - (intOf iv).toNat)
      case atStart => exact ⟨0, lg, none, 0, [], Nat.zero_le _, Nat.zero_le _, rfl, rfl, rfl, HD⟩
      case round =>
        obtain ⟨i, lg, bo, bc, l, hi, hi20, rfl, rfl, rfl, HR⟩ := hrel
        clear HD
        by_cases hlt : i < rs.length ∧ i < 20
        · obtain ⟨hl1, hl2⟩ := hlt
          have hI1 : (i : Int) < (rs.length : Int) := by omega
          have hI2 : (i : Int) < 20 := by omega
          have hli : (l.length : Int) ≤ 100000 := by have := (unhide HR).fit; have := (unhide HH).2.2.2.2; omega
          obtain ⟨pb, po, hpa, _, hpc⟩ := (unhide HH).2.2.1.cells (by omega)
          subst hpa
          obtain ⟨x, hx⟩ : ∃ x, x = rs[i] := ⟨_, rfl⟩
          obtain ⟨yo, yc, h1, h2, _⟩ := hpc i hl1
          rw [← hx] at h1 h2
          have HX := hide h2
          have HC : Hid (∀ u, Fr (fun _ => False) w u → u.cell? ⟨pb, po + i, none⟩ = some (.slice yo x.length yc)) := hide (fun u hu => (hu.cell (a := ⟨pb, po + i, none⟩) (World.block_lt_of_cell? _ _ h1) (fun t => t)).trans h1)
          have hxi : (x.length : Int) ≤ 140737488355328 := by have := h2.2.2; omega
          clear hx hpc h1 h2
          have c1 := unhide HC _ (unhide HR).fr
          by_cases hfit : (strm (l ++ [x])).length ≤ 504 * hlf (4 + k)
          · have HAp := hide ((unhide HR).append (by omega) (by have := (unhide HH).2.2.2.1; omega) (by have := unhide HPS; omega) yo yc x (unhide HX) hfit)
            clear hfit HR
            go_wp2_with fail
            refine (unhide HAp).mono ?_
            rintro e v2 ⟨rfl, HV2⟩
            clear HAp c1
            have c1 := unhide HC _ (unhide HV2).fr
            have HV3 := hide ((unhide HV2).keep ((Fr.refl _ _).alloc (.cells #[.slice yo x.length yc] 28)))
            obtain ⟨R, g, hA, hz, hsz, hback⟩ := (unhide HV3).grow (unhide HH).1
            have HGR := hide (And.intro hA (And.intro hz (And.intro hsz hback)))
            clear hA hz hsz hback HV2 HV3
            go_wp2_with (at_builtin; refine wpList_append_all w _ R rfl (.tmp 87) (.tmp 92) rfl (ao := bo) (cap := bc) (g := g) (n := l.length) (l := l) rfl ?hAll rfl _ [.slice yo x.length yc] 1 [x] rfl ?hEls rfl ?hSrc ?hZer ?hSiz ?hFitt ?hNext)
            case hAll => exact (unhide HGR).1
            case hEls => exact ⟨rfl, fun i h1 h2 => by have e : i = 0 := by simp at h1; omega
                                                       subst e; exact ⟨yo, yc, rfl, unhide HX⟩⟩
            case hSrc => exact src_one (P := Tryz.prog) v2 [.slice yo x.length yc] 23 28 1 Tryz.underlying23 rfl (fun u hu => by simp at hu; subst hu; rfl) (fun j => ((Bx.new v2 #[.slice yo x.length yc] 28).cell j).trans (by simp))
            case hZer => exact (unhide HGR).2.1
            case hSiz => exact (unhide HGR).2.2.1
            case hFitt => omega
            case hNext =>
              intro ao' cap' w' g' hA hF hg
              have HT := hide ((unhide HGR).2.2.2 w' ao' cap' g' _ hA hF (by rcases hg with h | h; (· exact .inl h); exact .inr (by rw [heap_alloc]; exact h)))
              clear hA hF hg HGR c1
              have HDK := hide (unhide HT).bd.disk
              go_wp2_with fail
              refine (unhide HDK).mono ?_
              rintro e u1 ⟨q1, rfl, HD2⟩
              clear HDK
              have HOP := hide (BD.open (la := (l ++ [x])) HD2 (by omega) (by have := (unhide HH).2.2.2.1; omega) (by have := (unhide HH).2.2.2.2; have := unhide HPS; omega) (by omega) (by simp; omega))
              go_wp2_with fail
              refine (unhide HOP).mono ?_
              rintro e u2 ⟨lg3, ro3, rc3, rfl, HOK⟩
              clear HOP HD2 HT
              have hsame : sameF (l ++ [x]) (l ++ [x]) = true := by simp [sameF]
              have HSA := hide (unhide HOK).2
              rw [hsame] at HSA
              clear hsame
              rw [show (l ++ [x]).length = l.length + 1 by simp] at HSA
              go_wp2_with fail
              refine (unhide HSA).mono ?_
              rintro e u3 ⟨rfl, hF3⟩
              clear HSA
              go_wp2
              exact ⟨⟨i + 1, lg3, ao', cap', (l ++ [x]), by omega, by omega, rfl, by simp, by go_num, hide (((unhide HOK).1.keep (unhide hF3)).mono (by have := (unhide HH).2.2.2.2; omega) (by have := (unhide HH).2.2.2.2; omega) (by omega))⟩, by simp [intOf]; omega⟩
          · have HAp := hide ((unhide HR).appendFull (by omega) (by have := (unhide HH).2.2.2.1; omega) yo yc x (by omega))
            clear hfit HR
            go_wp2_with fail
            refine (unhide HAp).mono ?_
            rintro e v2 ⟨rfl, HT⟩
            clear HAp c1
            have HDK := hide (unhide HT).bd.disk
            go_wp2_with fail
            refine (unhide HDK).mono ?_
            rintro e u1 ⟨q1, rfl, HD2⟩
            clear HDK
            have HOP := hide (BD.open (la := l) HD2 (by omega) (by have := (unhide HH).2.2.2.1; omega) (by have := (unhide HH).2.2.2.2; have := unhide HPS; omega) (by omega) (by omega))
            go_wp2_with fail
            refine (unhide HOP).mono ?_
            rintro e u2 ⟨lg3, ro3, rc3, rfl, HOK⟩
            clear HOP HD2 HT
            have hsame : sameF l l = true := by simp [sameF]
            have HSA := hide (unhide HOK).2
            rw [hsame] at HSA
            clear hsame
            go_wp2_with fail
            refine (unhide HSA).mono ?_
            rintro e u3 ⟨rfl, hF3⟩
            clear HSA
            go_wp2
            exact ⟨⟨i + 1, lg3, bo, bc, l, by omega, by omega, rfl, rfl, by go_num, hide (((unhide HOK).1.keep (unhide hF3)).mono (by have := (unhide HH).2.2.2.2; omega) (by have := (unhide HH).2.2.2.2; omega) (by omega))⟩, by simp [intOf]; omega⟩
        · by_cases h20 : i < 20
          · have hI1 : ¬ ((i : Int) < (rs.length : Int)) := by omega
            go_wp2
            go_ret
            exact ⟨rfl, (unhide HR).fr⟩
          · have hI1 : ¬ ((i : Int) < 20) := by omega
            by_cases hlt2 : i < rs.length
            · have hI2 : (i : Int) < (rs.length : Int) := by omega
              go_wp2
              go_ret
              exact ⟨rfl, (unhide HR).fr⟩
            · have hI2 : ¬ ((i : Int) < (rs.length : Int)) := by omega
              go_wp2
              go_ret
              exact ⟨rfl, (unhide HR).fr⟩

end Go.Proofs.YtjkghgcdkfkekaaGreatDoor

