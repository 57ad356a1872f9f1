import Derived.Test.YtjkghgcdkfkekaaGreatDoorYWK
import Derived.Test.YtjkghgcdkfkekaaGreatDoorYM5
import Derived.Test.YtjkghgcdkfkekaaGreatDoorYB7
/- A log on a disk, in memory and as plain data: what each call makes of both. -/
namespace Go.Proofs.YtjkghgcdkfkekaaGreatDoor
open Go.RowKit

/-- A disk with its hand. -/
structure Dn (w : World) (R : Nat → Nat) (hp b n : Nat) (d : Dk) : Prop where
  tab : TabR w R
  hand : Hnd w R hp b
  dk : DAt w R b d
  many : d.many = n

/-- A log that lives on a disk. -/
structure LS (w : World) (R : Nat → Nat) (hp b p l n : Nat) (d : Dk) (G h a : Nat) (rs : List Bs) (s num : Nat) : Prop where
  dn : Dn w R hp b n d
  dsk : Dsk w R p b n
  log : ∃ cs, LogAt w R l cs p (2 + h * hlf n) (hlf n) G rs num
  up : d.down = false
  lg : Lg d G h a rs s

section
variable {w w' : World} {R R' : Nat → Nat} {hp b p l n : Nat} {d : Dk} {G h a : Nat} {rs : List Bs} {s num : Nat}

theorem Dn.turn {S : Nat → Prop} (D : Dn w R hp b n d) (hF : Fr S w w') (hS : ∀ k, S k → R k ≠ 0) (hU : UpR w R R') (hS5 : ∀ k, R k = 5 → ¬ S k) {d' : Dk} (hD : DAt w' R' b d') (hm : d'.many = n) : Dn w' R' hp b n d' :=
  ⟨D.tab.frame hF hS hU, D.hand.frame hF hS5 hU, hD, hm⟩

/-- Blocks of clients turned. -/
theorem Dn.own {S : Nat → Prop} (D : Dn w R hp b n d) (hF : Fr S w w') (hS : ∀ k, k < w.heap.size → S k → R k = 0 ∧ k ≠ 1) : Dn w' R hp b n d := by
  have hF' : Fr (fun k => S k ∧ k < w.heap.size) w w' := hF.mono (fun k hk t => ⟨t, hk⟩)
  have ht : Fr (fun k => R k = 0 ∧ k ≠ 1) w w' := hF.mono hS
  refine ⟨⟨?_, D.tab.2⟩, D.hand.frame ht (fun k hk t => by omega) (UpR.refl _ _), D.dk.frame ht (fun k t => .inl t.1), D.many⟩
  exact D.tab.1.frame ht (fun t => t.2 rfl)

theorem Dn.keep (D : Dn w R hp b n d) (hF : Fr (fun _ => False) w w') : Dn w' R hp b n d := D.own hF (fun _ _ t => t.elim)

theorem LS.own {S : Nat → Prop} (L : LS w R hp b p l n d G h a rs s num) (hF : Fr S w w') (hS : ∀ k, k < w.heap.size → S k → R k = 0 ∧ k ≠ 1) : LS w' R hp b p l n d G h a rs s num := by
  have ht : Fr (fun k => R k = 0 ∧ k ≠ 1) w w' := hF.mono hS
  obtain ⟨cs, hl⟩ := L.log
  exact ⟨L.dn.own hF hS, L.dsk.frame ht (fun k hk t => by omega) (UpR.refl _ _), ⟨cs, hl.frame ht (fun k hk t => by omega) (UpR.refl _ _)⟩, L.up, L.lg⟩

theorem LS.keep (L : LS w R hp b p l n d G h a rs s num) (hF : Fr (fun _ => False) w w') : LS w' R hp b p l n d G h a rs s num := L.own hF (fun _ _ t => t.elim)

theorem Gd.le {c : Nat → Bs} (g : Gd n c G h a rs s) : h ≤ 1 ∧ a ≤ 1 ∧ G ≤ 281474976710656 := by
  have hb := hold_bd c
  rw [g.hold] at hb
  exact ⟨hb.2.1, hb.2.2, hb.1⟩

theorem half_in (h4 : 4 ≤ n) (hh : h ≤ 1) : 2 + h * hlf n + hlf n ≤ n := by
  have h2 := hlf_two n h4
  rcases (by omega : h = 0 ∨ h = 1) with e | e <;> subst e <;> simp <;> omega

theorem LS.append (L : LS w R hp b p l n d G h a rs s num) (h4 : 4 ≤ n) (hm : n ≤ 1048576) (hpot : d.pot + 600000 < 576460752303423488) (xo : Option Addr) (xc : Nat) (x : Bs) (hx : BAt w xo xc x) (hxr : ∀ b off, 0 < x.length → xo = some ⟨b, off, none⟩ → R b = 0) (hfit : (strm (rs ++ [x])).length ≤ 504 * hlf n) :
    Calls Tryz.prog 12 #[.pointer (some ⟨l, 0, none⟩), .slice xo x.length xc] w fun e w' => ∃ r R', r = d.run (putActs (2 + h * hlf n) G rs x) ∧ e = .returned (if r.2 then errV 5 else .nilIface) ∧ UpR w R R' ∧ Fr (fun k => R k ≠ 0) w w' ∧ Dn w' R' hp b n r.1 ∧
      (∀ sub, List.Sublist sub r.1.wait → Gd n (over r.1.safe sub) G h a (rs ++ [x]) s) ∧ (r.2 = false → LS w' R' hp b p l n r.1 G h a (rs ++ [x]) s num) := by
  obtain ⟨D, hk, ⟨cs, hl⟩, up, lg⟩ := L
  have hmn := D.many
  subst hmn
  have hle := lg.now.le
  have hfl := half_in h4 hle.1
  have hpc : d.cnt ≤ d.pot := Nat.le_add_right _ _
  have hwl := lg.wl
  have hwf := lg.fit
  have hwb := hlf_bd d.many h4 hm
  refine (lappend_any w R l cs p b d (2 + h * hlf d.many) G rs num D.tab hl hk D.dk up (by omega) h4 hm hfl (by omega) lg.fit xo xc x hx hxr hfit).mono ?_
  rintro e w' ⟨he, R', cs', j1, j2, j3, j4⟩
  obtain ⟨k1, k2⟩ := lg.put x hfit
  obtain ⟨f1, f2, f3⟩ := Dk.run_flags (putActs (2 + h * hlf d.many) G rs x) d
  have hS : ∀ k, DS R k ∨ k = l → R k ≠ 0 := fun k t => by rcases t with t | t; (· have := t.1; omega); (rw [t, hl.role]; omega)
  have hD' := D.turn j3 hS j2 (fun k hk t => by rcases t with t | t; (· have := t.2; omega); (rw [t, hl.role] at hk; omega)) j1 f1
  refine ⟨_, R', rfl, he, j2, j3.mono (fun k _ t => hS k t), hD', k1, fun hr => ⟨hD', hk.frame j3 (fun k hk t => by rcases t with t | t; (· have := t.2; omega); (rw [t, hl.role] at hk; omega)) j2, ⟨cs', j4 hr⟩, by rw [f3, hr]; exact up, k2 hr⟩⟩

theorem LS.appendFull (L : LS w R hp b p l n d G h a rs s num) (h4 : 4 ≤ n) (hm : n ≤ 1048576) (xo : Option Addr) (xc : Nat) (x : Bs) (hno : 504 * hlf n < (strm (rs ++ [x])).length) :
    Calls Tryz.prog 12 #[.pointer (some ⟨l, 0, none⟩), .slice xo x.length xc] w fun e w' => e = .returned (errV 91) ∧ Fr (fun _ => False) w w' := by
  obtain ⟨cs, hl⟩ := L.log
  have := L.lg.fit
  rw [L.dn.many] at this
  exact lappend_full w R l cs p b n (2 + h * hlf n) G rs num hl L.dsk h4 hm this xo xc x hno

theorem LS.sync (L : LS w R hp b p l n d G h a rs s num) (hpot : d.pot + 600000 < 576460752303423488) :
    Calls Tryz.prog 35 #[.pointer (some ⟨l, 0, none⟩)] w fun e w' => ∃ r R', r = d.act .sy ∧ e = .returned (if r.2 then errV 5 else .nilIface) ∧ UpR w R R' ∧ Fr (fun k => R k ≠ 0) w w' ∧ Dn w' R' hp b n r.1 ∧
      (∀ sub, List.Sublist sub r.1.wait → Gd n (over r.1.safe sub) G h a rs s) ∧ (r.2 = false → LS w' R' hp b p l n r.1 G h a rs rs.length num ∧ r.1.wait = []) := by
  obtain ⟨D, hk, ⟨cs, hl⟩, up, lg⟩ := L
  have hmn := D.many
  subst hmn
  have hpc : d.cnt ≤ d.pot := Nat.le_add_right _ _
  have hwl := lg.wl
  have hwf := lg.fit
  have hwm := D.dk.many
  have hwb : 2 * hlf d.many ≤ d.many := by unfold hlf; omega
  refine (lsync_any w R l cs p b d (2 + h * hlf d.many) (hlf d.many) G rs num hl hk D.dk up (by omega)).mono ?_
  rintro e w' ⟨he, R', j1, j2, j3⟩
  obtain ⟨k1, k2⟩ := lg.sync
  obtain ⟨f1, f2, f3, _⟩ := Dk.act_flags d .sy
  have hS : ∀ k, DS R k ∨ ((d.act .sy).2 = true ∧ k = l) → R k ≠ 0 := fun k t => by rcases t with t | t; (· have := t.1; omega); (rw [t.2, hl.role]; omega)
  have h5 : ∀ k, R k = 5 → ¬ (DS R k ∨ ((d.act .sy).2 = true ∧ k = l)) := fun k hk t => by rcases t with t | t; (· have := t.2; omega); (rw [t.2, hl.role] at hk; omega)
  have hD' := D.turn j3 hS j2 h5 j1 f1
  refine ⟨_, R', rfl, he, j2, j3.mono (fun k _ t => hS k t), hD', k1, fun hr => ⟨⟨hD', hk.frame j3 h5 j2, ⟨cs, hl.frame j3 (fun k hk t => ?_) j2⟩, by rw [f3, hr]; exact up, (k2 hr).1⟩, (k2 hr).2⟩⟩
  rcases t with t | t
  · have := t.2; omega
  · rw [hr] at t; cases t.1

theorem LS.rewrite (L : LS w R hp b p l n d G h a rs s num) (h4 : 4 ≤ n) (hm : n ≤ 1048576) (hpot : d.pot + 180 * hlf n + 600000 < 576460752303423488) (hG : G ≤ 150000000000000) (hnum : num < 4611686018427387904) (ro : Option Addr) (rc : Nat) (rs' : List Bs) (hR : RecsP (fun k => R k = 0) w ro rc rs') (hfit : (strm rs').length ≤ 504 * hlf n) :
    Calls Tryz.prog 28 #[.pointer (some ⟨l, 0, none⟩), .slice ro rs'.length rc] w fun e w' => ∃ r R' G', G < G' ∧ G' ≤ G + 1 + hlf n ∧ r = d.run (anewActs (2 + (1 - h) * hlf n) G' rs' (1 - a) (hsec G' (1 - h))) ∧ e = .returned (if r.2 then errV 5 else .nilIface) ∧ UpR w R R' ∧ Fr (fun k => R k ≠ 0) w w' ∧ Dn w' R' hp b n r.1 ∧
      (∀ sub, List.Sublist sub r.1.wait → Gd n (over r.1.safe sub) G h a rs s ∨ Gd n (over r.1.safe sub) G' (1 - h) (1 - a) rs' rs'.length) ∧ (r.2 = false → LS w' R' hp b p l n r.1 G' (1 - h) (1 - a) rs' rs'.length (num + 1) ∧ r.1.wait = []) := by
  obtain ⟨D, hk, ⟨cs, hl⟩, up, lg⟩ := L
  have hmn := D.many
  subst hmn
  have hbd := hlf_bd d.many h4 hm
  have hnp := nputs_hlf rs' _ hfit
  have hpe : d.pot = d.cnt + d.wait.length := rfl
  have hwl := lg.wl
  have hwf := lg.fit
  refine (lrewrite_any w R l cs p b d num D.tab hl.b hk D.dk up rs' (by omega) h4 hm hnum G h a lg.now.hold ro rc hR hfit).mono ?_
  rintro e w' ⟨G', g1, g2, g3, r, hr, he, R', cs', j1, j2, j3, j4⟩
  obtain ⟨k1, k2⟩ := anew_power (rs := rs') lg.now.hold hfit g1 (by omega) g3
  rw [← hr] at k1 k2
  obtain ⟨f1, f2, f3⟩ := Dk.run_flags (anewActs (2 + (1 - h) * hlf d.many) G' rs' (1 - a) (hsec G' (1 - h))) d
  rw [← hr] at f1 f2 f3
  have hS : ∀ k, DS R k ∨ k = l → R k ≠ 0 := fun k t => by rcases t with t | t; (· have := t.1; omega); (rw [t, hl.role]; omega)
  have h5 : ∀ k, R k = 5 → ¬ (DS R k ∨ k = l) := fun k hk t => by rcases t with t | t; (· have := t.2; omega); (rw [t, hl.role] at hk; omega)
  have hD' := D.turn j3 hS j2 h5 j1 f1
  exact ⟨r, R', G', g1, g2, hr, he, j2, j3.mono (fun k _ t => hS k t), hD', fun sub hs => (k1 sub hs).imp (fun o => o.gd lg.each) id, fun h0 => ⟨⟨hD', hk.frame j3 h5 j2, ⟨cs', j4 h0⟩, by rw [f3, h0]; exact up, (k2 h0).1⟩, (k2 h0).2⟩⟩

theorem LS.rewriteFull (L : LS w R hp b p l n d G h a rs s num) (ro : Option Addr) (rc : Nat) (rs' : List Bs) (hR : RecsP (fun k => R k = 0) w ro rc rs') (hno : 504 * hlf n < (strm rs').length) :
    Calls Tryz.prog 28 #[.pointer (some ⟨l, 0, none⟩), .slice ro rs'.length rc] w fun e w' => e = .returned (errV 91) ∧ Fr (fun _ => False) w w' := by
  obtain ⟨cs, hl⟩ := L.log
  exact lrewrite_full w R l cs p b n num hl.b L.dsk rs' ro rc hR hno

theorem LS.room (L : LS w R hp b p l n d G h a rs s num) (h4 : 4 ≤ n) (hm : n ≤ 1048576) :
    Calls Tryz.prog 33 #[.pointer (some ⟨l, 0, none⟩)] w fun e w' => e = .returned (.int .i64 (504 * (hlf n : Int) - (bgn (strm rs).length : Int) - 12)) ∧ Fr (fun _ => False) w w' := by
  obtain ⟨cs, hl⟩ := L.log
  have := L.lg.fit
  rw [L.dn.many] at this
  exact lroom_any w R l cs p b n (2 + h * hlf n) (hlf n) G rs num hl L.dsk h4 hm this

theorem LS.records (L : LS w R hp b p l n d G h a rs s num) :
    Calls Tryz.prog 36 #[.pointer (some ⟨l, 0, none⟩)] w fun e w' => e = .returned (.int .i64 (rs.length : Int)) ∧ w' = w := by
  obtain ⟨cs, hl⟩ := L.log
  exact lrecords_any w R l cs p _ _ G rs num hl

theorem LS.number (L : LS w R hp b p l n d G h a rs s num) :
    Calls Tryz.prog 37 #[.pointer (some ⟨l, 0, none⟩)] w fun e w' => e = .returned (.int .i64 (num : Int)) ∧ w' = w := by
  obtain ⟨cs, hl⟩ := L.log
  exact lnumber_any w R l cs p _ _ G rs num hl

/-- Open on a disk that has power. -/
theorem Dn.open (D : Dn w R hp b n d) (hk : Dsk w R p b n) (up : d.down = false) (h4 : 4 ≤ n) (hm : n ≤ 1048576) (hpot : d.pot + 180 * hlf n + 600000 < 576460752303423488) (hw : d.wait.length + 180 * hlf n + 600000 < 2199023255552) (hho : hold d.look = (G, h, a)) (hG : G ≤ 140737488355328) :
    Calls Tryz.prog 10 #[.pointer (some ⟨p, 0, none⟩)] w fun e w' => ∃ r R' G' l', G < G' ∧ G' ≤ G + 1 + hlf n ∧ (G = 0 → l' = []) ∧ (0 < G → IsFound d.look (2 + h * hlf n) (hlf n) G l') ∧ r = d.run (anewActs (2 + (1 - h) * hlf n) G' l' (1 - a) (hsec G' (1 - h))) ∧ UpR w R R' ∧ Fr (fun k => R k ≠ 0) w w' ∧ Dn w' R' hp b n r.1 ∧
      (∀ sub, List.Sublist sub r.1.wait → Old d h (over r.1.safe sub) ∨ Gd n (over r.1.safe sub) G' (1 - h) (1 - a) l' l'.length) ∧
      (r.2 = true → e = .returned (.tuple #[.pointer none, .slice none 0 0, errV 5])) ∧
      (r.2 = false → ∃ lg ro rc, e = .returned (.tuple #[.pointer (some ⟨lg, 0, none⟩), .slice ro l'.length rc, .nilIface]) ∧ LS w' R' hp b p lg n r.1 G' (1 - h) (1 - a) l' l'.length 1 ∧ r.1.wait = [] ∧ RecsP (fun k => w.heap.size ≤ k ∧ R' k = 0) w' ro rc l') := by
  have hmn := D.many
  subst hmn
  have hpe : d.pot = d.cnt + d.wait.length := rfl
  have hbd := hlf_bd d.many h4 hm
  refine (open_any w R p b d D.tab hk D.dk up (by omega) h4 hm G h a hho hG).mono ?_
  rintro e w' ⟨l', G', r, R', q1, q2, g1, g2, g3, hr, j1, j2, j3, j4, j5⟩
  have hfit : (strm l').length ≤ 504 * hlf d.many := by
    rcases Nat.eq_zero_or_pos G with e | e
    · rw [q1 e, strm_nil]; simp
    · exact (q2 e).fit (fun i => D.dk.ok.look i)
  obtain ⟨k1, k2⟩ := anew_power (rs := l') hho hfit g1 (by omega) g3
  rw [← hr] at k1 k2
  obtain ⟨f1, f2, f3⟩ := Dk.run_flags (anewActs (2 + (1 - h) * hlf d.many) G' l' (1 - a) (hsec G' (1 - h))) d
  rw [← hr] at f1 f2 f3
  have hS : ∀ k, DS R k → R k ≠ 0 := fun k t => by have := t.1; omega
  have hD' := D.turn j3 hS j2 DS5 j1 f1
  refine ⟨r, R', G', l', g1, g2, q1, q2, hr, j2, j3.mono (fun k _ t => hS k t), hD', k1, j4, fun h0 => ?_⟩
  obtain ⟨lg, cs', ro, rc, i1, i2, i3, i4⟩ := j5 h0
  exact ⟨lg, ro, rc, i1, ⟨hD', hk.frame j3 DS5 j2, ⟨cs', i3⟩, by rw [f3, h0]; exact up, (k2 h0).1⟩, (k2 h0).2, i4⟩

/-- A hand's Disk. -/
theorem Dn.disk (D : Dn w R hp b n d) : Calls Tryz.prog 11 #[.pointer (some ⟨hp, 0, none⟩)] w fun e w' => ∃ R' q, e = .returned (.pointer (some ⟨q, 0, none⟩)) ∧ Dsk w' R' q b n ∧ Dn w' R' hp b n d ∧ UpR w R R' ∧ Fr (fun _ => False) w w' := by
  refine (disk_any w R hp b d D.hand D.dk).mono ?_
  rintro e w' ⟨R', q, rfl, h1, h2, h3, h4, h5⟩
  rw [D.many] at h1
  exact ⟨R', q, rfl, h1, D.turn h4 (fun _ t => t.elim) h3 (fun _ _ t => t) h2 D.many, h3, h4⟩

theorem Dn.down (D : Dn w R hp b n d) : Calls Tryz.prog 20 #[.pointer (some ⟨hp, 0, none⟩)] w fun e w' => e = .returned (.bool d.down) ∧ w' = w := down_any w R hp b d D.hand D.dk

theorem Dn.arm (D : Dn w R hp b n d) (k : Int) (hk : k < 9223372036854775808) (dn : Bool) : Calls Tryz.prog 19 #[.pointer (some ⟨hp, 0, none⟩), .int .i64 k, .bool dn] w fun e w' => e = .returned (.tuple #[]) ∧ Dn w' R hp b n (d.arm k dn) ∧ Fr (fun k => R k ≠ 0) w w' := by
  refine (arm_any w R hp b d D.hand D.dk k hk dn).mono ?_
  rintro e w' ⟨rfl, h1, h2⟩
  have hS : ∀ k, k = b → R k ≠ 0 := fun k t => by rw [t, D.dk.role]; omega
  exact ⟨rfl, D.turn h2 hS (UpR.refl _ _) (fun k hk t => by rw [t, D.dk.role] at hk; omega) h1 D.many, h2.mono (fun k _ t => hS k t)⟩

/-- Arming changes no log. -/
theorem LS.arm (L : LS w R hp b p l n d G h a rs s num) (k : Int) (hk : k < 9223372036854775808) (dn : Bool) : Calls Tryz.prog 19 #[.pointer (some ⟨hp, 0, none⟩), .int .i64 k, .bool dn] w fun e w' => e = .returned (.tuple #[]) ∧ LS w' R hp b p l n (d.arm k dn) G h a rs s num ∧ Fr (fun k => R k ≠ 0) w w' := by
  refine (arm_any w R hp b d L.dn.hand L.dn.dk k hk dn).mono ?_
  rintro e w' ⟨rfl, h1, h2⟩
  have D := L.dn
  have hS : ∀ k, k = b → R k ≠ 0 := fun k t => by rw [t, D.dk.role]; omega
  obtain ⟨cs, hl⟩ := L.log
  exact ⟨rfl, ⟨D.turn h2 hS (UpR.refl _ _) (fun k hk t => by rw [t, D.dk.role] at hk; omega) h1 D.many, L.dsk.frame h2 (fun k hk t => by rw [t, D.dk.role] at hk; omega) (UpR.refl _ _), ⟨cs, hl.frame h2 (fun k hk t => by rw [t, D.dk.role] at hk; omega) (UpR.refl _ _)⟩, L.up, ⟨L.lg.each, L.lg.now, L.lg.le, L.lg.fit, L.lg.wl⟩⟩, h2.mono (fun k _ t => hS k t)⟩

theorem Dn.crash (D : Dn w R hp b n d) (hpot : d.pot + 600000 < 1099511627776) (ko : Option Addr) (kc : Nat) (ks : List Bool) (hK : KeepAt w ko kc ks) (hkr : 0 < ks.length → ∀ k off, ko = some ⟨k, off, none⟩ → R k = 0) :
    Calls Tryz.prog 25 #[.pointer (some ⟨hp, 0, none⟩), .slice ko ks.length kc] w fun e w' => e = .returned (.tuple #[]) ∧ ∃ R', Dn w' R' hp b n (d.crash ks) ∧ UpR w R R' ∧ Fr (fun k => R k ≠ 0) w w' := by
  have hpc : d.cnt ≤ d.pot := Nat.le_add_right _ _
  refine (crash_any w R hp b d D.hand D.dk (by omega) ko kc ks hK hkr).mono ?_
  rintro e w' ⟨rfl, R', h1, h2, h3⟩
  have hS : ∀ k, DS R k → R k ≠ 0 := fun k t => by have := t.1; omega
  exact ⟨rfl, R', D.turn h3 hS h2 DS5 h1 D.many, h2, h3.mono (fun k _ t => hS k t)⟩

/-- A new disk. -/
theorem new_dn (w : World) (R : Nat → Nat) (hT : TabR w R) (hR : ∀ k, w.heap.size ≤ k → R k = 0) (n : Nat) (hn : n < 4294967296) :
    Calls Tryz.prog 8 #[.int .i64 (n : Int)] w fun e w' => ∃ R' p b, e = .returned (.pointer (some ⟨p, 0, none⟩)) ∧ Dn w' R' p b n (Dk.new n) ∧ UpR w R R' ∧ Fr (fun _ => False) w w' := by
  refine (new_any w R hR (n : Int) (by omega)).mono ?_
  rintro e w' ⟨R', p, b, rfl, h1, h2, h3, h4⟩
  rw [Int.toNat_natCast] at h1
  exact ⟨R', p, b, rfl, ⟨hT.frame h4 (fun _ t => t.elim) h3, h2, h1, rfl⟩, h3, h4⟩

end

end Go.Proofs.YtjkghgcdkfkekaaGreatDoor

/- Opening again; rows of records held against each other. -/
namespace Go.Proofs.YtjkghgcdkfkekaaGreatDoor
open Go.RowKit

/-- What a chain of calls leaves: the roles of what was there, and all that has none. -/
structure Ch (w w' : World) (R R' : Nat → Nat) : Prop where
  up : UpR w R R'
  fr : Fr (fun k => R k ≠ 0) w w'

theorem Ch.refl (w : World) (R : Nat → Nat) : Ch w w R R := ⟨UpR.refl _ _, Fr.refl _ _⟩
theorem Ch.step {w w1 w2 : World} {R R1 R2 : Nat → Nat} (h : Ch w w1 R R1) (hU : UpR w1 R1 R2) (hF : Fr (fun k => R1 k ≠ 0) w1 w2) : Ch w w2 R R2 :=
  ⟨h.up.trans hU h.fr.size, h.fr.trans hF (fun k hk t => by rw [← h.up k hk]; exact t)⟩
theorem Ch.keep {w w1 w2 : World} {R R1 : Nat → Nat} (h : Ch w w1 R R1) (hF : Fr (fun _ => False) w1 w2) : Ch w w2 R R1 := h.step (UpR.refl _ _) (hF.mono (fun _ _ t => t.elim))
theorem Ch.calm {w w1 w2 : World} {R R1 R2 : Nat → Nat} (h : Ch w w1 R R1) (hU : UpR w1 R1 R2) (hF : Fr (fun _ => False) w1 w2) : Ch w w2 R R2 := h.step hU (hF.mono (fun _ _ t => t.elim))

theorem hd_zeros : hd (zeros 512) = none := by
  unfold hd
  rw [if_neg]
  have e : ((zeros 512).drop 4).take 8 = digs 0 8 := by decide +kernel
  rw [e, digs_num_lt (by decide)]
  omega

theorem hold_new0 (c : Nat → Bs) (h0 : c 0 = zeros 512) (h1 : c 1 = zeros 512) : hold c = (0, 1, 1) := by
  simp [hold, holdTo, h0, h1, hd_zeros, upH]

section
variable {w w' : World} {R R' : Nat → Nat} {hp b p l n : Nat} {d : Dk} {G h a : Nat} {rs : List Bs} {s num : Nat}

/-- Open where a log is: a beginning of its records is found. -/
theorem Dn.reopen (D : Dn w R hp b n d) (hk : Dsk w R p b n) (up : d.down = false) (h4 : 4 ≤ n) (hm : n ≤ 1048576) (hpot : d.pot + 180 * hlf n + 600000 < 576460752303423488) (hw : d.wait.length + 180 * hlf n + 600000 < 2199023255552) (g : Gd n d.look G h a rs s) (hG : G ≤ 140737488355328) (hfit : (strm rs).length ≤ 504 * hlf n) (hs : s ≤ rs.length) :
    Calls Tryz.prog 10 #[.pointer (some ⟨p, 0, none⟩)] w fun e w' => ∃ r R' G' m, G < G' ∧ G' ≤ G + 1 + hlf n ∧ s ≤ m ∧ m ≤ rs.length ∧ r = d.run (anewActs (2 + (1 - h) * hlf n) G' (rs.take m) (1 - a) (hsec G' (1 - h))) ∧ UpR w R R' ∧ Fr (fun k => R k ≠ 0) w w' ∧ Dn w' R' hp b n r.1 ∧
      (∀ sub, List.Sublist sub r.1.wait → Old d h (over r.1.safe sub) ∨ Gd n (over r.1.safe sub) G' (1 - h) (1 - a) (rs.take m) (rs.take m).length) ∧
      (r.2 = true → e = .returned (.tuple #[.pointer none, .slice none 0 0, errV 5])) ∧
      (r.2 = false → ∃ lg ro rc, e = .returned (.tuple #[.pointer (some ⟨lg, 0, none⟩), .slice ro (rs.take m).length rc, .nilIface]) ∧ LS w' R' hp b p lg n r.1 G' (1 - h) (1 - a) (rs.take m) (rs.take m).length 1 ∧ r.1.wait = [] ∧ RecsP (fun k => w.heap.size ≤ k ∧ R' k = 0) w' ro rc (rs.take m)) := by
  refine (D.open hk up h4 hm hpot hw g.hold hG).mono ?_
  rintro e w' ⟨r, R', G', l', g1, g2, q1, q2, hr, j1, j2, j3, j4, j5, j6⟩
  obtain ⟨m, m1, m2, rfl⟩ := g.found (fun i => D.dk.ok.look i) hfit hs h4 hm (by omega) (q2 g.pos)
  exact ⟨r, R', G', m, g1, g2, m1, m2, hr, j1, j2, j3, j4, j5, j6⟩

theorem strm_take_fit (rs : List Bs) (m H : Nat) (hm : m ≤ rs.length) (h : (strm rs).length ≤ 504 * H) : (strm (rs.take m)).length ≤ 504 * H := by
  have := strm_take_len rs hm
  rw [List.take_length] at this
  omega

end

theorem conv_bat {w : World} {ao : Option Addr} {cap : Nat} {bs : List UInt8} (h : BAt w ao cap bs) : (convert 28 9 (.slice ao bs.length cap)).run Tryz.prog w = .ok (.string ⟨bs.toArray⟩) w := by
  by_cases hk : 0 < bs.length
  · obtain ⟨b, off, e, hc⟩ := h.2.1 hk
    rw [e]
    refine run_convert_bytes_back (P := Tryz.prog) w 28 9 5 ⟨b, off, none⟩ cap bs Tryz.underlying28 Tryz.underlying5 Tryz.underlying9 (fun j hj => ?_)
    have hplain : (⟨b, off, none⟩ : Addr).add j = ⟨b, off + j, none⟩ := Addr.add_lit ..
    rw [hplain]
    exact hc j hj
  · obtain rfl : bs = [] := List.eq_nil_of_length_eq_zero (by omega)
    cases ao with
    | none =>
      rw [show ([] : List UInt8).length = 0 from rfl, run_convert_bytes_nil w 28 5 Tryz.underlying28 Tryz.underlying5 0 cap 9 Tryz.underlying9]
      rfl
    | some x => exact run_convert_bytes_back (P := Tryz.prog) w 28 9 5 x cap [] Tryz.underlying28 Tryz.underlying5 Tryz.underlying9 (fun j hj => by simp at hj)

end Go.Proofs.YtjkghgcdkfkekaaGreatDoor

/- A log on a disk whose power stays: what each call makes of it. -/
namespace Go.Proofs.YtjkghgcdkfkekaaGreatDoor
open Go.RowKit

/-- A log that lives, with power; w0, R0: whence. (B, C: bounds of what was laid down, and of its number.) -/
def PW (w0 w : World) (R0 R : Nat → Nat) (hp b p l n : Nat) (rs : List Bs) (s num B C : Nat) : Prop :=
  ∃ d G h a, d.armed = false ∧ d.pot ≤ B ∧ G ≤ C ∧ LS w R hp b p l n d G h a rs s num ∧ Ch w0 w R0 R

/-- A disk with power on which there is a log. -/
def PD (w0 w : World) (R0 R : Nat → Nat) (hp b n : Nat) (rs : List Bs) (B C : Nat) : Prop :=
  ∃ d G h a, d.armed = false ∧ d.down = false ∧ d.pot ≤ B ∧ G ≤ C ∧ Dn w R hp b n d ∧ Gd n d.look G h a rs rs.length ∧ (strm rs).length ≤ 504 * hlf n ∧ Ch w0 w R0 R

section
variable {w0 w : World} {R0 R : Nat → Nat} {hp b p l n : Nat} {rs : List Bs} {s num B C : Nat}

theorem PW.keep {w' : World} (P : PW w0 w R0 R hp b p l n rs s num B C) (hF : Fr (fun _ => False) w w') : PW w0 w' R0 R hp b p l n rs s num B C := by
  obtain ⟨d, G, h, a, h1, h2, h3, L, c⟩ := P
  exact ⟨d, G, h, a, h1, h2, h3, L.keep hF, c.keep hF⟩

theorem PW.chain (P : PW w0 w R0 R hp b p l n rs s num B C) : Ch w0 w R0 R := by obtain ⟨d, G, h, a, h1, h2, h3, L, c⟩ := P; exact c

theorem PD.keep {w' : World} (P : PD w0 w R0 R hp b n rs B C) (hF : Fr (fun _ => False) w w') : PD w0 w' R0 R hp b n rs B C := by
  obtain ⟨d, G, h, a, h1, h2, h3, h4, D, g, f, c⟩ := P
  exact ⟨d, G, h, a, h1, h2, h3, h4, D.keep hF, g, f, c.keep hF⟩

theorem PW.pd (P : PW w0 w R0 R hp b p l n rs s num B C) : PD w0 w R0 R hp b n rs B C := by
  obtain ⟨d, G, h, a, h1, h2, h3, L, c⟩ := P
  have hm := L.dn.many
  have hg := L.lg.now
  have hf := L.lg.fit
  rw [hm] at hg hf
  exact ⟨d, G, h, a, h1, L.up, h2, h3, L.dn, hg, hf, c⟩

theorem PW.append (P : PW w0 w R0 R hp b p l n rs s num B C) (h4 : 4 ≤ n) (hm : n ≤ 1048576) (hB : B + 600000 < 2199023255552) (xo : Option Addr) (xc : Nat) (x : Bs) (hx : BAt w xo xc x) (hxr : ∀ b off, 0 < x.length → xo = some ⟨b, off, none⟩ → R b = 0) (hfit : (strm (rs ++ [x])).length ≤ 504 * hlf n) :
    Calls Tryz.prog 12 #[.pointer (some ⟨l, 0, none⟩), .slice xo x.length xc] w fun e w' => e = .returned .nilIface ∧ ∃ R', UpR w R R' ∧ Fr (fun k => R k ≠ 0) w w' ∧ PW w0 w' R0 R' hp b p l n (rs ++ [x]) s num (B + 2 * hlf n) C := by
  obtain ⟨d, G, h, a, h1, h2, h3, L, c⟩ := P
  refine (L.append h4 hm (by omega) xo xc x hx hxr hfit).mono ?_
  rintro e w' ⟨r, R', hr, he, j1, j2, j3, j4, j5⟩
  have h0 : r.2 = false := by rw [hr]; exact Dk.run_free _ d h1
  have hf := Dk.run_flags (putActs (2 + h * hlf n) G rs x) d
  have hp := Dk.run_pot (putActs (2 + h * hlf n) G rs x) d
  have hn := nput_hlf rs x (hlf n) hfit
  rw [← hr] at hf hp
  rw [putActs_length] at hp
  rw [h0] at he
  exact ⟨he, R', j1, j2, r.1, G, h, a, hf.2.1.trans h1, by omega, h3, j5 h0, c.step j1 j2⟩

theorem PW.appendFull (P : PW w0 w R0 R hp b p l n rs s num B C) (h4 : 4 ≤ n) (hm : n ≤ 1048576) (xo : Option Addr) (xc : Nat) (x : Bs) (hno : 504 * hlf n < (strm (rs ++ [x])).length) :
    Calls Tryz.prog 12 #[.pointer (some ⟨l, 0, none⟩), .slice xo x.length xc] w fun e w' => e = .returned (errV 91) ∧ Fr (fun _ => False) w w' := by
  obtain ⟨d, G, h, a, h1, h2, h3, L, c⟩ := P
  exact L.appendFull h4 hm xo xc x hno

theorem PW.sync (P : PW w0 w R0 R hp b p l n rs s num B C) (hB : B + 600000 < 2199023255552) :
    Calls Tryz.prog 35 #[.pointer (some ⟨l, 0, none⟩)] w fun e w' => e = .returned .nilIface ∧ ∃ R', UpR w R R' ∧ Fr (fun k => R k ≠ 0) w w' ∧ PW w0 w' R0 R' hp b p l n rs rs.length num (B + 2) C := by
  obtain ⟨d, G, h, a, h1, h2, h3, L, c⟩ := P
  refine (L.sync (by omega)).mono ?_
  rintro e w' ⟨r, R', hr, he, j1, j2, j3, j4, j5⟩
  have h0 : r.2 = false := by rw [hr]; exact Dk.act_free2 d _ h1
  have hf := Dk.act_flags d .sy
  have hp := Dk.act_pot d .sy
  rw [← hr] at hf hp
  rw [h0] at he
  exact ⟨he, R', j1, j2, r.1, G, h, a, hf.2.1.trans h1, by omega, h3, (j5 h0).1, c.step j1 j2⟩

theorem PW.rewrite (P : PW w0 w R0 R hp b p l n rs s num B C) (h4 : 4 ≤ n) (hm : n ≤ 1048576) (hB : B + 180 * hlf n + 600000 < 2199023255552) (hC : C ≤ 140737488355328) (hnum : num < 4611686018427387904) (ro : Option Addr) (rc : Nat) (rs' : List Bs) (hR : RecsP (fun k => R k = 0) w ro rc rs') (hfit : (strm rs').length ≤ 504 * hlf n) :
    Calls Tryz.prog 28 #[.pointer (some ⟨l, 0, none⟩), .slice ro rs'.length rc] w fun e w' => e = .returned .nilIface ∧ ∃ R', UpR w R R' ∧ Fr (fun k => R k ≠ 0) w w' ∧ PW w0 w' R0 R' hp b p l n rs' rs'.length (num + 1) (B + 180 * hlf n + 6) (C + 1 + hlf n) := by
  obtain ⟨d, G, h, a, h1, h2, h3, L, c⟩ := P
  refine (L.rewrite h4 hm (by omega) (by omega) hnum ro rc rs' hR hfit).mono ?_
  rintro e w' ⟨r, R', G', g1, g2, hr, he, j1, j2, j3, j4, j5⟩
  have h0 : r.2 = false := by rw [hr]; exact Dk.run_free _ d h1
  have hf := Dk.run_flags (anewActs (2 + (1 - h) * hlf n) G' rs' (1 - a) (hsec G' (1 - h))) d
  have hp := Dk.run_pot (anewActs (2 + (1 - h) * hlf n) G' rs' (1 - a) (hsec G' (1 - h))) d
  have hn := nputs_hlf rs' (hlf n) hfit
  rw [← hr] at hf hp
  rw [anewActs_length] at hp
  rw [h0] at he
  exact ⟨he, R', j1, j2, r.1, G', 1 - h, 1 - a, hf.2.1.trans h1, by omega, by omega, (j5 h0).1, c.step j1 j2⟩

theorem PW.rewriteFull (P : PW w0 w R0 R hp b p l n rs s num B C) (ro : Option Addr) (rc : Nat) (rs' : List Bs) (hR : RecsP (fun k => R k = 0) w ro rc rs') (hno : 504 * hlf n < (strm rs').length) :
    Calls Tryz.prog 28 #[.pointer (some ⟨l, 0, none⟩), .slice ro rs'.length rc] w fun e w' => e = .returned (errV 91) ∧ Fr (fun _ => False) w w' := by
  obtain ⟨d, G, h, a, h1, h2, h3, L, c⟩ := P
  exact L.rewriteFull ro rc rs' hR hno

theorem PW.room (P : PW w0 w R0 R hp b p l n rs s num B C) (h4 : 4 ≤ n) (hm : n ≤ 1048576) :
    Calls Tryz.prog 33 #[.pointer (some ⟨l, 0, none⟩)] w fun e w' => e = .returned (.int .i64 (504 * (hlf n : Int) - (bgn (strm rs).length : Int) - 12)) ∧ Fr (fun _ => False) w w' := by
  obtain ⟨d, G, h, a, h1, h2, h3, L, c⟩ := P
  exact L.room h4 hm

theorem PW.records (P : PW w0 w R0 R hp b p l n rs s num B C) :
    Calls Tryz.prog 36 #[.pointer (some ⟨l, 0, none⟩)] w fun e w' => e = .returned (.int .i64 (rs.length : Int)) ∧ w' = w := by
  obtain ⟨d, G, h, a, h1, h2, h3, L, c⟩ := P
  exact L.records

theorem PW.number (P : PW w0 w R0 R hp b p l n rs s num B C) :
    Calls Tryz.prog 37 #[.pointer (some ⟨l, 0, none⟩)] w fun e w' => e = .returned (.int .i64 (num : Int)) ∧ w' = w := by
  obtain ⟨d, G, h, a, h1, h2, h3, L, c⟩ := P
  exact L.number

/-- Behind a sync a loss of power takes nothing. -/
theorem PW.crash (P : PW w0 w R0 R hp b p l n rs rs.length num B C) (hB : B + 600000 < 1099511627776) (ko : Option Addr) (kc : Nat) (ks : List Bool) (hK : KeepAt w ko kc ks) (hkr : 0 < ks.length → ∀ k off, ko = some ⟨k, off, none⟩ → R k = 0) :
    Calls Tryz.prog 25 #[.pointer (some ⟨hp, 0, none⟩), .slice ko ks.length kc] w fun e w' => e = .returned (.tuple #[]) ∧ ∃ R', UpR w R R' ∧ Fr (fun k => R k ≠ 0) w w' ∧ PD w0 w' R0 R' hp b n rs B C := by
  obtain ⟨d, G, h, a, h1, h2, h3, L, c⟩ := P
  refine (L.dn.crash (by omega) ko kc ks hK hkr).mono ?_
  rintro e w' ⟨he, R', j1, j2, j3⟩
  have hm := L.dn.many
  have hg := L.lg.each (kept d.wait ks) (kept_sub _ _)
  have hf := L.lg.fit
  rw [hm] at hg hf
  exact ⟨he, R', j2, j3, d.crash ks, G, h, a, rfl, rfl, by rw [Dk.crash_pot]; exact h2, h3, j1, hg, hf, c.step j2 j3⟩

theorem PD.disk (P : PD w0 w R0 R hp b n rs B C) : Calls Tryz.prog 11 #[.pointer (some ⟨hp, 0, none⟩)] w fun e w' => ∃ R' q, e = .returned (.pointer (some ⟨q, 0, none⟩)) ∧ Dsk w' R' q b n ∧ UpR w R R' ∧ Fr (fun _ => False) w w' ∧ PD w0 w' R0 R' hp b n rs B C := by
  obtain ⟨d, G, h, a, h1, h2, h3, h4, D, g, f, c⟩ := P
  refine D.disk.mono ?_
  rintro e w' ⟨R', q, he, k1, k2, k3, k4⟩
  exact ⟨R', q, he, k1, k3, k4, d, G, h, a, h1, h2, h3, h4, k2, g, f, c.calm k3 k4⟩

theorem PD.open (P : PD w0 w R0 R hp b n rs B C) (hk : Dsk w R p b n) (h4 : 4 ≤ n) (hm : n ≤ 1048576) (hB : B + 180 * hlf n + 600000 < 2199023255552) (hC : C ≤ 140737488355328) :
    Calls Tryz.prog 10 #[.pointer (some ⟨p, 0, none⟩)] w fun e w' => ∃ lg ro rc, e = .returned (.tuple #[.pointer (some ⟨lg, 0, none⟩), .slice ro rs.length rc, .nilIface]) ∧ ∃ R', UpR w R R' ∧ Fr (fun k => R k ≠ 0) w w' ∧ PW w0 w' R0 R' hp b p lg n rs rs.length 1 (B + 180 * hlf n + 6) (C + 1 + hlf n) ∧ RecsP (fun k => w.heap.size ≤ k ∧ R' k = 0) w' ro rc rs := by
  obtain ⟨d, G, h, a, h1, h2, h3, h5, D, g, f, c⟩ := P
  refine (D.reopen hk h2 h4 hm (by omega) (by have hpe : d.pot = d.cnt + d.wait.length := rfl; omega) g (by omega) f (Nat.le_refl _)).mono ?_
  rintro e w' ⟨r, R', G', m, g1, g2, m1, m2, hr, j1, j2, j3, j4, j5, j6⟩
  obtain rfl : m = rs.length := by omega
  rw [List.take_length] at *
  have h0 : r.2 = false := by rw [hr]; exact Dk.run_free _ d h1
  have hf := Dk.run_flags (anewActs (2 + (1 - h) * hlf n) G' rs (1 - a) (hsec G' (1 - h))) d
  have hp := Dk.run_pot (anewActs (2 + (1 - h) * hlf n) G' rs (1 - a) (hsec G' (1 - h))) d
  have hn := nputs_hlf rs (hlf n) f
  rw [← hr] at hf hp
  rw [anewActs_length] at hp
  obtain ⟨lg, ro, rc, e1, e2, e3, e4⟩ := j6 h0
  exact ⟨lg, ro, rc, e1, R', j1, j2, ⟨r.1, G', 1 - h, 1 - a, hf.2.1.trans h1, by omega, by omega, e2, c.step j1 j2⟩, e4⟩

/-- The first Open on a disk without a log. -/
theorem Dn.first {d : Dk} (D : Dn w R hp b n d) (hk : Dsk w R p b n) (ha : d.armed = false) (up : d.down = false) (h4 : 4 ≤ n) (hm : n ≤ 1048576) (hpot : d.pot ≤ B) (hB : B + 180 * hlf n + 600000 < 2199023255552) (hz : hold d.look = (0, 1, 1)) (c : Ch w0 w R0 R) :
    Calls Tryz.prog 10 #[.pointer (some ⟨p, 0, none⟩)] w fun e w' => ∃ lg ro rc, e = .returned (.tuple #[.pointer (some ⟨lg, 0, none⟩), .slice ro 0 rc, .nilIface]) ∧ ∃ R', UpR w R R' ∧ Fr (fun k => R k ≠ 0) w w' ∧ PW w0 w' R0 R' hp b p lg n [] 0 1 (B + 180 * hlf n + 6) (1 + hlf n) := by
  refine (D.open hk up h4 hm (by omega) (by have hpe : d.pot = d.cnt + d.wait.length := rfl; omega) hz (by omega)).mono ?_
  rintro e w' ⟨r, R', G', l', g1, g2, q1, q2, hr, j1, j2, j3, j4, j5, j6⟩
  obtain rfl := q1 rfl
  have h0 : r.2 = false := by rw [hr]; exact Dk.run_free _ d ha
  have hf := Dk.run_flags (anewActs (2 + (1 - 1) * hlf n) G' [] (1 - 1) (hsec G' (1 - 1))) d
  have hp := Dk.run_pot (anewActs (2 + (1 - 1) * hlf n) G' [] (1 - 1) (hsec G' (1 - 1))) d
  rw [← hr] at hf hp
  rw [anewActs_length] at hp
  have hn : nputs [] ([] : List Bs).length = 0 := rfl
  obtain ⟨lg, ro, rc, e1, e2, e3, e4⟩ := j6 h0
  exact ⟨lg, ro, rc, e1, R', j1, j2, r.1, G', 1 - 1, 1 - 1, hf.2.1.trans ha, by omega, by omega, e2, c.step j1 j2⟩

end

end Go.Proofs.YtjkghgcdkfkekaaGreatDoor

