import Derived.Test.YtdbmmbnbgndllaaGreatDoorYWR
import Derived.Test.YtdbmmbnbgndllaaGreatDoorYWT
/- A log while the power may go, and the row of what it should tell: what each call makes of both. -/
namespace Go.Proofs.YtdbmmbnbgndllaaGreatDoor
open Go.RowKit

/-- Contents of which only rows are found that meet OK. -/
def Zc (n C : Nat) (OK : List Bs → Prop) (c : Nat → Bs) : Prop := ∃ G h a rs s, Gd n c G h a rs s ∧ s ≤ rs.length ∧ (strm rs).length ≤ 504 * hlf n ∧ G ≤ C ∧ ∀ m, s ≤ m → m ≤ rs.length → OK (rs.take m)

theorem Zc.mono {n C C' : Nat} {OK OK' : List Bs → Prop} {c : Nat → Bs} (h : Zc n C OK c) (hC : C ≤ C') (hO : ∀ l, OK l → OK' l) : Zc n C' OK' c := by
  obtain ⟨G, k, a, rs, s, h1, h2, h3, h4, h5⟩ := h
  exact ⟨G, k, a, rs, s, h1, h2, h3, by omega, fun m q1 q2 => hO _ (h5 m q1 q2)⟩

/-- What lies beside a disk: a row of records (la), boxes of clients. -/
structure Side (w wr : World) (R : Nat → Nat) (ao : Option Addr) (cap : Nat) (la : List Bs) (bx : List (Nat × Array Value × TypeId)) : Prop where
  ch : Ch w wr (fun _ => 0) R
  ex : ∃ g, AllAt w wr R ao cap g la ∧ Bxs wr R cap g bx

theorem Side.turn {w wr w' : World} {R R' : Nat → Nat} {ao : Option Addr} {cap : Nat} {la : List Bs} {bx : List (Nat × Array Value × TypeId)} (h : Side w wr R ao cap la bx) (hU : UpR wr R R') (hF : Fr (fun k => R k ≠ 0) wr w') : Side w w' R' ao cap la bx := by
  obtain ⟨g, h1, h2⟩ := h.ex
  exact ⟨h.ch.step hU hF, g, h1.turn hU hF, h2.turn hU hF⟩
theorem Side.keep {w wr w' : World} {R : Nat → Nat} {ao : Option Addr} {cap : Nat} {la : List Bs} {bx : List (Nat × Array Value × TypeId)} (h : Side w wr R ao cap la bx) (hF : Fr (fun _ => False) wr w') : Side w w' R ao cap la bx := h.turn (UpR.refl _ _) (hF.mono (fun _ _ t => t.elim))

/-- A log that lives, whether armed or not. -/
def BP (w wr : World) (hp b n B C N lg : Nat) (ao : Option Addr) (cap : Nat) (lp la : List Bs) (s : Nat) (bx : List (Nat × Array Value × TypeId)) : Prop :=
  ∃ R p num d G h a, d.pot ≤ B ∧ G ≤ C ∧ num ≤ N ∧ LS wr R hp b p lg n d G h a lp s num ∧ Side w wr R ao cap la bx

/-- A disk alone, of which only rows are found that meet OK, whichever writes stay. -/
def BQ (w wr : World) (hp b n B C : Nat) (ao : Option Addr) (cap : Nat) (la : List Bs) (dn : Bool) (OK : List Bs → Prop) (bx : List (Nat × Array Value × TypeId)) : Prop :=
  ∃ R d, d.pot ≤ B ∧ d.down = dn ∧ Dn wr R hp b n d ∧ (∀ sub, List.Sublist sub d.wait → Zc n C OK (over d.safe sub)) ∧ Side w wr R ao cap la bx

section
variable {w wr w' : World} {hp b n B C N lg : Nat} {ao : Option Addr} {cap : Nat} {lp la : List Bs} {s : Nat} {bx : List (Nat × Array Value × TypeId)} {dn : Bool} {OK : List Bs → Prop}

theorem BP.keep (h : BP w wr hp b n B C N lg ao cap lp la s bx) (hF : Fr (fun _ => False) wr w') : BP w w' hp b n B C N lg ao cap lp la s bx := by
  obtain ⟨R, p, num, d, G, k, a, h1, h2, h3, L, S⟩ := h
  exact ⟨R, p, num, d, G, k, a, h1, h2, h3, L.keep hF, S.keep hF⟩
theorem BQ.keep (h : BQ w wr hp b n B C ao cap la dn OK bx) (hF : Fr (fun _ => False) wr w') : BQ w w' hp b n B C ao cap la dn OK bx := by
  obtain ⟨R, d, h1, h2, D, Z, S⟩ := h
  exact ⟨R, d, h1, h2, D.keep hF, Z, S.keep hF⟩
theorem BP.mono {B' C' N' : Nat} (h : BP w wr hp b n B C N lg ao cap lp la s bx) (hB : B ≤ B') (hC : C ≤ C') (hN : N ≤ N') : BP w wr hp b n B' C' N' lg ao cap lp la s bx := by
  obtain ⟨R, p, num, d, G, k, a, h1, h2, h3, L, S⟩ := h
  exact ⟨R, p, num, d, G, k, a, by omega, by omega, by omega, L, S⟩
theorem BQ.mono {B' C' : Nat} {OK' : List Bs → Prop} (h : BQ w wr hp b n B C ao cap la dn OK bx) (hB : B ≤ B') (hC : C ≤ C') (hO : ∀ l, OK l → OK' l) : BQ w wr hp b n B' C' ao cap la dn OK' bx := by
  obtain ⟨R, d, h1, h2, D, Z, S⟩ := h
  exact ⟨R, d, by omega, h2, D, fun sub hs => (Z sub hs).mono hC hO, S⟩
theorem BP.fr (h : BP w wr hp b n B C N lg ao cap lp la s bx) : Fr (fun _ => False) w wr := by
  obtain ⟨R, p, num, d, G, k, a, h1, h2, h3, L, S⟩ := h
  exact S.ch.fr.mono (fun k _ t => t rfl)
theorem BQ.fr (h : BQ w wr hp b n B C ao cap la dn OK bx) : Fr (fun _ => False) w wr := by
  obtain ⟨R, d, h1, h2, D, Z, S⟩ := h
  exact S.ch.fr.mono (fun k _ t => t rfl)
theorem BP.box (h : BP w wr hp b n B C N lg ao cap lp la s bx) {x : Nat × Array Value × TypeId} (hx : x ∈ bx) : Bx wr x.1 x.2.1 x.2.2 := by
  obtain ⟨R, p, num, d, G, k, a, h1, h2, h3, L, S⟩ := h
  obtain ⟨g, A, X⟩ := S.ex
  exact (X x hx).1
theorem BQ.box (h : BQ w wr hp b n B C ao cap la dn OK bx) {x : Nat × Array Value × TypeId} (hx : x ∈ bx) : Bx wr x.1 x.2.1 x.2.2 := by
  obtain ⟨R, d, h1, h2, D, Z, S⟩ := h
  obtain ⟨g, A, X⟩ := S.ex
  exact (X x hx).1
theorem BP.fit (h : BP w wr hp b n B C N lg ao cap lp la s bx) : (strm lp).length ≤ 504 * hlf n ∧ 12 * lp.length ≤ (strm lp).length ∧ s ≤ lp.length := by
  obtain ⟨R, p, num, d, G, k, a, h1, h2, h3, L, S⟩ := h
  have := L.lg.fit
  rw [L.dn.many] at this
  have hc := strm_count lp lp.length (Nat.le_refl _)
  rw [List.take_length] at hc
  exact ⟨this, hc, L.lg.le⟩

/-- A live log, as a disk. -/
theorem BP.bq (h : BP w wr hp b n B C N lg ao cap lp la s bx) (hO : ∀ m, s ≤ m → m ≤ lp.length → OK (lp.take m)) : BQ w wr hp b n B C ao cap la false OK bx := by
  have hf := h.fit
  obtain ⟨R, p, num, d, G, k, a, h1, h2, h3, L, S⟩ := h
  refine ⟨R, d, h1, L.up, L.dn, fun sub hs => ?_, S⟩
  have g := L.lg.each sub hs
  rw [L.dn.many] at g
  exact ⟨G, k, a, lp, s, g, hf.2.2, hf.1, h2, hO⟩

theorem BP.down (h : BP w wr hp b n B C N lg ao cap lp la s bx) : Calls Tryz.prog 19 #[.pointer (some ⟨hp, 0, none⟩)] wr fun e w' => e = .returned (.bool false) ∧ w' = wr := by
  obtain ⟨R, p, num, d, G, k, a, h1, h2, h3, L, S⟩ := h
  have := L.dn.down
  rw [L.up] at this
  exact this
theorem BQ.down (h : BQ w wr hp b n B C ao cap la dn OK bx) : Calls Tryz.prog 19 #[.pointer (some ⟨hp, 0, none⟩)] wr fun e w' => e = .returned (.bool dn) ∧ w' = wr := by
  obtain ⟨R, d, h1, h2, D, Z, S⟩ := h
  have := D.down
  rw [h2] at this
  exact this

/-- Append where there is room: refused or not. -/
theorem BP.append (h : BP w wr hp b n B C N lg ao cap lp la s bx) (h4 : 4 ≤ n) (hm : n ≤ 1048576) (hB : B + 600000 < 2199023255552) (xo : Option Addr) (xc : Nat) (x : Bs) (hx : BAt w xo xc x) (hfit : (strm (lp ++ [x])).length ≤ 504 * hlf n) (hO : ∀ m, s ≤ m → m ≤ lp.length + 1 → OK ((lp ++ [x]).take m)) :
    Calls Tryz.prog 23 #[.pointer (some ⟨lg, 0, none⟩), .slice xo x.length xc] wr fun e w' => (e = .returned .nilIface ∧ Hid (BP w w' hp b n (B + 2 * hlf n) C N lg ao cap (lp ++ [x]) la s bx)) ∨ (e = .returned (errV 5) ∧ Hid (BQ w w' hp b n (B + 2 * hlf n) C ao cap la true OK bx)) := by
  have hF := h.fr
  have hs := h.fit
  obtain ⟨R, p, num, d, G, k, a, h1, h2, h3, L, S⟩ := h
  refine (L.append h4 hm (by omega) xo xc x (hx.later hF) (fun b' off h0 e => ?_) hfit).mono ?_
  · obtain ⟨b2, off2, e2, hc⟩ := hx.2.1 h0
    rw [e2] at e
    injection e with e
    injection e with q1 q2
    subst q1
    rw [S.ch.up b2 (World.block_lt_of_cell? _ _ (hc 0 h0))]
  · rintro e w' ⟨r, R', hr, he, j1, j2, j3, j4, j5⟩
    have hf := Dk.run_flags (putActs (2 + k * hlf n) G lp x) d
    have hp := Dk.run_pot (putActs (2 + k * hlf n) G lp x) d
    have hn := nput_hlf lp x (hlf n) hfit
    rw [← hr] at hf hp
    rw [putActs_length] at hp
    cases h0 : r.2 with
    | false => rw [h0] at he; exact .inl ⟨he, hide ⟨R', p, num, r.1, G, k, a, by omega, h2, h3, j5 h0, S.turn j1 j2⟩⟩
    | true =>
      rw [h0] at he
      exact .inr ⟨he, hide ⟨R', r.1, by omega, by rw [hf.2.2, h0]; rfl, j3, fun sub hsub => ⟨G, k, a, lp ++ [x], s, j4 sub hsub, by simp; omega, hfit, h2, fun m q1 q2 => hO m q1 (by simpa using q2)⟩, S.turn j1 j2⟩⟩

theorem BP.appendFull (h : BP w wr hp b n B C N lg ao cap lp la s bx) (h4 : 4 ≤ n) (hm : n ≤ 1048576) (xo : Option Addr) (xc : Nat) (x : Bs) (hno : 504 * hlf n < (strm (lp ++ [x])).length) :
    Calls Tryz.prog 23 #[.pointer (some ⟨lg, 0, none⟩), .slice xo x.length xc] wr fun e w' => e = .returned (errV 91) ∧ Hid (BP w w' hp b n B C N lg ao cap lp la s bx) := by
  have h' := h
  obtain ⟨R, p, num, d, G, k, a, h1, h2, h3, L, S⟩ := h
  exact (L.appendFull h4 hm xo xc x hno).mono (fun e w' k => ⟨k.1, hide (h'.keep k.2)⟩)

theorem BP.sync (h : BP w wr hp b n B C N lg ao cap lp la s bx) (hB : B + 600000 < 2199023255552) (hO : ∀ m, s ≤ m → m ≤ lp.length → OK (lp.take m)) :
    Calls Tryz.prog 25 #[.pointer (some ⟨lg, 0, none⟩)] wr fun e w' => (e = .returned .nilIface ∧ Hid (BP w w' hp b n (B + 2) C N lg ao cap lp la lp.length bx)) ∨ (e = .returned (errV 5) ∧ Hid (BQ w w' hp b n (B + 2) C ao cap la true OK bx)) := by
  have hs := h.fit
  obtain ⟨R, p, num, d, G, k, a, h1, h2, h3, L, S⟩ := h
  refine (L.sync (by omega)).mono ?_
  rintro e w' ⟨r, R', hr, he, j1, j2, j3, j4, j5⟩
  have hf := Dk.act_flags d .sy
  have hp := Dk.act_pot d .sy
  rw [← hr] at hf hp
  cases h0 : r.2 with
  | false => rw [h0] at he; exact .inl ⟨he, hide ⟨R', p, num, r.1, G, k, a, by omega, h2, h3, (j5 h0).1, S.turn j1 j2⟩⟩
  | true =>
    rw [h0] at he
    exact .inr ⟨he, hide ⟨R', r.1, by omega, by rw [hf.2.2.1, h0]; rfl, j3, fun sub hsub => ⟨G, k, a, lp, s, j4 sub hsub, hs.2.2, hs.1, h2, hO⟩, S.turn j1 j2⟩⟩

theorem BP.rewrite (h : BP w wr hp b n B C N lg ao cap lp la s bx) (h4 : 4 ≤ n) (hm : n ≤ 1048576) (hB : B + 180 * hlf n + 600000 < 2199023255552) (hC : C ≤ 140737488355328) (hN : N < 4611686018427387904) (ro : Option Addr) (rc : Nat) (rs : List Bs) (hR : RecsP (fun _ => True) w ro rc rs) (hfit : (strm rs).length ≤ 504 * hlf n) (hO : ∀ m, s ≤ m → m ≤ lp.length → OK (lp.take m)) (hO2 : OK rs) :
    Calls Tryz.prog 24 #[.pointer (some ⟨lg, 0, none⟩), .slice ro rs.length rc] wr fun e w' => (e = .returned .nilIface ∧ Hid (BP w w' hp b n (B + 180 * hlf n + 6) (C + 1 + hlf n) (N + 1) lg ao cap rs la rs.length bx)) ∨ (e = .returned (errV 5) ∧ Hid (BQ w w' hp b n (B + 180 * hlf n + 6) (C + 1 + hlf n) ao cap la true OK bx)) := by
  have hF := h.fr
  have hs := h.fit
  obtain ⟨R, p, num, d, G, k, a, h1, h2, h3, L, S⟩ := h
  have hR' : RecsP (fun k => R k = 0) wr ro rc rs := ((hR.mono (Q := fun k => k < w.heap.size) (fun k hk _ => hk)).frame hF (fun _ _ t => t)).mono (fun k _ hk => by rw [S.ch.up k hk])
  refine (L.rewrite h4 hm (by omega) (by omega) (by omega) ro rc rs hR' hfit).mono ?_
  rintro e w' ⟨r, R', G', g1, g2, hr, he, j1, j2, j3, j4, j5⟩
  have hf := Dk.run_flags (anewActs (2 + (1 - k) * hlf n) G' rs (1 - a) (hsec G' (1 - k))) d
  have hp := Dk.run_pot (anewActs (2 + (1 - k) * hlf n) G' rs (1 - a) (hsec G' (1 - k))) d
  have hn := nputs_hlf rs (hlf n) hfit
  rw [← hr] at hf hp
  rw [anewActs_length] at hp
  cases h0 : r.2 with
  | false => rw [h0] at he; exact .inl ⟨he, hide ⟨R', p, num + 1, r.1, G', 1 - k, 1 - a, by omega, by omega, by omega, (j5 h0).1, S.turn j1 j2⟩⟩
  | true =>
    rw [h0] at he
    refine .inr ⟨he, hide ⟨R', r.1, by omega, by rw [hf.2.2, h0]; rfl, j3, fun sub hsub => ?_, S.turn j1 j2⟩⟩
    rcases j4 sub hsub with g | g
    · exact ⟨G, k, a, lp, s, g, hs.2.2, hs.1, by omega, hO⟩
    · exact ⟨G', 1 - k, 1 - a, rs, rs.length, g, Nat.le_refl _, hfit, by omega, fun m q1 q2 => by rw [show m = rs.length by omega, List.take_length]; exact hO2⟩

theorem BP.rewriteFull (h : BP w wr hp b n B C N lg ao cap lp la s bx) (ro : Option Addr) (rc : Nat) (rs : List Bs) (hR : RecsP (fun _ => True) w ro rc rs) (hno : 504 * hlf n < (strm rs).length) :
    Calls Tryz.prog 24 #[.pointer (some ⟨lg, 0, none⟩), .slice ro rs.length rc] wr fun e w' => e = .returned (errV 91) ∧ Hid (BP w w' hp b n B C N lg ao cap lp la s bx) := by
  have hF := h.fr
  have h' := h
  obtain ⟨R, p, num, d, G, k, a, h1, h2, h3, L, S⟩ := h
  have hR' : RecsP (fun k => R k = 0) wr ro rc rs := ((hR.mono (Q := fun k => k < w.heap.size) (fun k hk _ => hk)).frame hF (fun _ _ t => t)).mono (fun k _ hk => by rw [S.ch.up k hk])
  exact (L.rewriteFull ro rc rs hR' hno).mono (fun e w' k => ⟨k.1, hide (h'.keep k.2)⟩)

/-- Arming. -/
theorem BP.arm (h : BP w wr hp b n B C N lg ao cap lp la s bx) (k : Int) (hk : k < 9223372036854775808) (x : Bool) : Calls Tryz.prog 29 #[.pointer (some ⟨hp, 0, none⟩), .int .i64 k, .bool x] wr fun e w' => e = .returned (.tuple #[]) ∧ Hid (BP w w' hp b n B C N lg ao cap lp la s bx) := by
  obtain ⟨R, p, num, d, G, g, a, h1, h2, h3, L, S⟩ := h
  refine (L.arm k hk x).mono ?_
  rintro e w' ⟨he, j1, j2⟩
  exact ⟨he, hide ⟨R, p, num, d.arm k x, G, g, a, h1, h2, h3, j1, S.turn (UpR.refl _ _) j2⟩⟩
theorem BQ.arm (h : BQ w wr hp b n B C ao cap la dn OK bx) (k : Int) (hk : k < 9223372036854775808) (x : Bool) : Calls Tryz.prog 29 #[.pointer (some ⟨hp, 0, none⟩), .int .i64 k, .bool x] wr fun e w' => e = .returned (.tuple #[]) ∧ Hid (BQ w w' hp b n B C ao cap la dn OK bx) := by
  obtain ⟨R, d, h1, h2, D, Z, S⟩ := h
  refine (D.arm k hk x).mono ?_
  rintro e w' ⟨he, j1, j2⟩
  exact ⟨he, hide ⟨R, d.arm k x, h1, h2, j1, Z, S.turn (UpR.refl _ _) j2⟩⟩

/-- A loss of power. -/
theorem BQ.crash (h : BQ w wr hp b n B C ao cap la dn OK bx) (hB : B + 600000 < 1099511627776) (ko : Option Addr) (kc : Nat) (ks : List Bool) (hK : KeepAt w ko kc ks) :
    Calls Tryz.prog 26 #[.pointer (some ⟨hp, 0, none⟩), .slice ko ks.length kc] wr fun e w' => e = .returned (.tuple #[]) ∧ Hid (BQ w w' hp b n B C ao cap la false OK bx) := by
  have hF := h.fr
  obtain ⟨R, d, h1, h2, D, Z, S⟩ := h
  refine (D.crash (by omega) ko kc ks (hK.frame hF (fun _ _ _ _ t => t)) (fun e0 k off e => ?_)).mono ?_
  · obtain ⟨kb, koff, e1, hc⟩ := hK.cells e0
    have hlt : kb < w.heap.size := World.block_lt_of_cell? _ _ (hc 0 e0)
    rw [e1] at e
    injection e with e
    injection e with q1 q2
    subst q1
    rw [S.ch.up kb hlt]
  · rintro e w' ⟨he, R', j1, j2, j3⟩
    refine ⟨he, hide ⟨R', d.crash ks, by rw [Dk.crash_pot]; exact h1, rfl, j1, fun sub hs => ?_, S.turn j2 j3⟩⟩
    have : sub = [] := List.eq_nil_of_sublist_nil hs
    subst this
    exact Z _ (kept_sub _ _)

end

end Go.Proofs.YtdbmmbnbgndllaaGreatDoor

