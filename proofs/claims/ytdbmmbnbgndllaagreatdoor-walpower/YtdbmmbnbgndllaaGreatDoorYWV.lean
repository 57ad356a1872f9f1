import Derived.Test.YtdbmmbnbgndllaaGreatDoorYWU
/- A disk behind a loss of power: it is armed, opened, and loses its power again. -/
namespace Go.Proofs.YtdbmmbnbgndllaaGreatDoor
open Go.RowKit

theorem Side.grow {w wr : World} {R : Nat → Nat} {ao : Option Addr} {cap : Nat} {la : List Bs} {bx : List (Nat × Array Value × TypeId)} (hT : TabAt w) (h : Side w wr R ao cap la bx) : ∃ g, AllAt w wr R ao cap g la ∧ (∀ k, k < wr.heap.size → (k = g ∧ 0 < cap) → R k = 0 ∧ k ≠ 1) ∧
    ∀ w' ao' cap' g' la', AllAt w w' R ao' cap' g' la' → Fr (fun k => k = g ∧ 0 < cap) wr w' → (g' = g ∧ cap' = cap ∨ wr.heap.size ≤ g') → Side w w' R ao' cap' la' bx := by
  obtain ⟨g, h3, hx'⟩ := h.ex
  refine ⟨g, h3, fun k hk t => ⟨by rw [t.1]; exact (h3.own t.2).2, fun e => ?_⟩, fun w' ao' cap' g' la' hA hF hg => ⟨⟨h.ch.up, ?_⟩, g', hA, fun x hx => ?_⟩⟩
  · have := (h3.own t.2).1
    have := hT.pos
    omega
  · exact h.ch.fr.trans hF (fun k hk t => by have := (h3.own t.2).1; omega)
  · obtain ⟨b1, b2, b3⟩ := hx' x hx
    refine ⟨b1.frame hF (fun t => b3 t.2 t.1), b2, fun hc => ?_⟩
    have := b1.lt
    rcases hg with ⟨e1, e2⟩ | e1
    · rw [e1]; exact b3 (by omega)
    · omega

theorem Side.anew {w wr : World} {R : Nat → Nat} {ao : Option Addr} {cap : Nat} {la : List Bs} {bx : List (Nat × Array Value × TypeId)} (h : Side w wr R ao cap la bx) : (∀ g a, AllAt w wr R a 0 g []) ∧
    ∀ w' ao' cap' g' la', AllAt w w' R ao' cap' g' la' → Fr (fun _ => False) wr w' → (0 < cap' → wr.heap.size ≤ g') → Side w w' R ao' cap' la' bx := by
  obtain ⟨g, h3, hx'⟩ := h.ex
  refine ⟨fun g a => ⟨⟨[], ⟨Nat.le_refl _, by decide, fun h => absurd h (by decide), fun j hj => absurd hj (by omega), fun j hj => absurd hj (by simp), fun u hu => by cases hu⟩, rfl, fun i h => absurd h (by simp)⟩, fun h => absurd h (by decide)⟩, fun w' ao' cap' g' la' hA hF hg => ⟨h.ch.keep hF, g', hA, fun x hx => ?_⟩⟩
  obtain ⟨b1, b2, b3⟩ := hx' x hx
  exact ⟨b1.keep hF, b2, fun hc => by have := b1.lt; have := hg hc; omega⟩

theorem Side.new {w wr : World} {R : Nat → Nat} {ao : Option Addr} {cap : Nat} {la : List Bs} {bx : List (Nat × Array Value × TypeId)} (h : Side w wr R ao cap la bx) (hz : ∀ k, wr.heap.size ≤ k → R k = 0) (cs : Array Value) (t : TypeId) : Side w (wr.alloc (.cells cs t)) R ao cap la ((wr.heap.size, cs, t) :: bx) := by
  have hF : Fr (fun _ => False) wr (wr.alloc (.cells cs t)) := (Fr.refl _ _).alloc _
  obtain ⟨g, h3, hx'⟩ := h.ex
  refine ⟨h.ch.keep hF, g, h3.keep hF, fun x hx => ?_⟩
  rcases List.mem_cons.1 hx with rfl | hx
  · exact ⟨Bx.new _ _ _, hz _ (Nat.le_refl _), fun hc => by obtain ⟨vs, hv, _⟩ := h3.ex; have := hv.lt hc; show wr.heap.size ≠ g; omega⟩
  · exact hx'.keep hF x hx

theorem Side.tail {w wr : World} {R : Nat → Nat} {ao : Option Addr} {cap : Nat} {la : List Bs} {y : Nat × Array Value × TypeId} {bx : List (Nat × Array Value × TypeId)} (h : Side w wr R ao cap la (y :: bx)) : Side w wr R ao cap la bx := by
  obtain ⟨g, h3, hx'⟩ := h.ex
  exact ⟨h.ch, g, h3, fun x hx => hx' x (List.mem_cons_of_mem _ hx)⟩

/-- A disk behind a loss of power (af: it is not armed). -/
def BZ (w wr : World) (hp b n B C : Nat) (ao : Option Addr) (cap : Nat) (la : List Bs) (af : Bool) (OK : List Bs → Prop) (bx : List (Nat × Array Value × TypeId)) : Prop :=
  ∃ R d, d.pot ≤ B ∧ d.down = false ∧ d.wait = [] ∧ (af = true → d.armed = false) ∧ Dn wr R hp b n d ∧ Zc n C OK d.look ∧ Side w wr R ao cap la bx

/-- The same, with a Disk in hand. -/
def BZq (w wr : World) (hp b n B C : Nat) (ao : Option Addr) (cap : Nat) (la : List Bs) (af : Bool) (OK : List Bs → Prop) (bx : List (Nat × Array Value × TypeId)) (q : Nat) : Prop :=
  ∃ R d, d.pot ≤ B ∧ d.down = false ∧ d.wait = [] ∧ (af = true → d.armed = false) ∧ Dn wr R hp b n d ∧ Dsk wr R q b n ∧ Zc n C OK d.look ∧ Side w wr R ao cap la bx

section
variable {w wr w' : World} {hp b n B C N lg : Nat} {ao : Option Addr} {cap : Nat} {lp la : List Bs} {s : Nat} {bx : List (Nat × Array Value × TypeId)} {dn af : Bool} {OK : List Bs → Prop}

theorem BP.grow (hT : TabAt w) (h : BP w wr hp b n B C N lg ao cap lp la s bx) : ∃ R g, AllAt w wr R ao cap g la ∧ (∀ k, wr.heap.size ≤ k → R k = 0) ∧ w.heap.size ≤ wr.heap.size ∧
    ∀ w' ao' cap' g' la', AllAt w w' R ao' cap' g' la' → Fr (fun k => k = g ∧ 0 < cap) wr w' → (g' = g ∧ cap' = cap ∨ wr.heap.size ≤ g') → BP w w' hp b n B C N lg ao' cap' lp la' s bx := by
  obtain ⟨R, p, num, d, G, k, a, h1, h2, h3, L, S⟩ := h
  obtain ⟨g, q1, q2, q3⟩ := S.grow hT
  exact ⟨R, g, q1, L.dn.dk.zero, S.ch.fr.size, fun w' ao' cap' g' la' hA hF hg => ⟨R, p, num, d, G, k, a, h1, h2, h3, L.own hF q2, q3 w' ao' cap' g' la' hA hF hg⟩⟩
theorem BQ.grow (hT : TabAt w) (h : BQ w wr hp b n B C ao cap la dn OK bx) : ∃ R g, AllAt w wr R ao cap g la ∧ (∀ k, wr.heap.size ≤ k → R k = 0) ∧ w.heap.size ≤ wr.heap.size ∧
    ∀ w' ao' cap' g' la', AllAt w w' R ao' cap' g' la' → Fr (fun k => k = g ∧ 0 < cap) wr w' → (g' = g ∧ cap' = cap ∨ wr.heap.size ≤ g') → BQ w w' hp b n B C ao' cap' la' dn OK bx := by
  obtain ⟨R, d, h1, h2, D, Z, S⟩ := h
  obtain ⟨g, q1, q2, q3⟩ := S.grow hT
  exact ⟨R, g, q1, D.dk.zero, S.ch.fr.size, fun w' ao' cap' g' la' hA hF hg => ⟨R, d, h1, h2, D.own hF q2, Z, q3 w' ao' cap' g' la' hA hF hg⟩⟩
theorem BP.anew (h : BP w wr hp b n B C N lg ao cap lp la s bx) : ∃ R, (∀ g a, AllAt w wr R a 0 g []) ∧ (∀ k, wr.heap.size ≤ k → R k = 0) ∧ w.heap.size ≤ wr.heap.size ∧
    ∀ w' ao' cap' g' la', AllAt w w' R ao' cap' g' la' → Fr (fun _ => False) wr w' → (0 < cap' → wr.heap.size ≤ g') → BP w w' hp b n B C N lg ao' cap' lp la' s bx := by
  obtain ⟨R, p, num, d, G, k, a, h1, h2, h3, L, S⟩ := h
  obtain ⟨q1, q2⟩ := S.anew
  exact ⟨R, q1, L.dn.dk.zero, S.ch.fr.size, fun w' ao' cap' g' la' hA hF hg => ⟨R, p, num, d, G, k, a, h1, h2, h3, L.keep hF, q2 w' ao' cap' g' la' hA hF hg⟩⟩
theorem BP.new (h : BP w wr hp b n B C N lg ao cap lp la s bx) (cs : Array Value) (t : TypeId) : BP w (wr.alloc (.cells cs t)) hp b n B C N lg ao cap lp la s ((wr.heap.size, cs, t) :: bx) := by
  obtain ⟨R, p, num, d, G, k, a, h1, h2, h3, L, S⟩ := h
  exact ⟨R, p, num, d, G, k, a, h1, h2, h3, L.keep ((Fr.refl _ _).alloc _), S.new L.dn.dk.zero cs t⟩
theorem BP.tail {y : Nat × Array Value × TypeId} (h : BP w wr hp b n B C N lg ao cap lp la s (y :: bx)) : BP w wr hp b n B C N lg ao cap lp la s bx := by
  obtain ⟨R, p, num, d, G, k, a, h1, h2, h3, L, S⟩ := h
  exact ⟨R, p, num, d, G, k, a, h1, h2, h3, L, S.tail⟩
theorem BQ.tail {y : Nat × Array Value × TypeId} (h : BQ w wr hp b n B C ao cap la dn OK (y :: bx)) : BQ w wr hp b n B C ao cap la dn OK bx := by
  obtain ⟨R, d, h1, h2, D, Z, S⟩ := h
  exact ⟨R, d, h1, h2, D, Z, S.tail⟩

theorem BZ.keep (h : BZ w wr hp b n B C ao cap la af OK bx) (hF : Fr (fun _ => False) wr w') : BZ w w' hp b n B C ao cap la af OK bx := by
  obtain ⟨R, d, h1, h2, h3, h4, D, Z, S⟩ := h
  exact ⟨R, d, h1, h2, h3, h4, D.keep hF, Z, S.keep hF⟩
theorem BZ.mono {B' C' : Nat} (h : BZ w wr hp b n B C ao cap la af OK bx) (hB : B ≤ B') (hC : C ≤ C') : BZ w wr hp b n B' C' ao cap la af OK bx := by
  obtain ⟨R, d, h1, h2, h3, h4, D, Z, S⟩ := h
  exact ⟨R, d, by omega, h2, h3, h4, D, Z.mono hC (fun _ t => t), S⟩
theorem BZ.fr (h : BZ w wr hp b n B C ao cap la af OK bx) : Fr (fun _ => False) w wr := by
  obtain ⟨R, d, h1, h2, h3, h4, D, Z, S⟩ := h
  exact S.ch.fr.mono (fun k _ t => t rfl)

theorem BQ.loss (h : BQ w wr hp b n B C ao cap la dn OK bx) (hB : B + 600000 < 1099511627776) (ko : Option Addr) (kc : Nat) (ks : List Bool) (hK : KeepAt w ko kc ks) :
    Calls Tryz.prog 26 #[.pointer (some ⟨hp, 0, none⟩), .slice ko ks.length kc] wr fun e w' => e = .returned (.tuple #[]) ∧ Hid (BZ w w' hp b n B C ao cap la true OK bx) := by
  have hF := h.fr
  obtain ⟨R, d, h1, h2, D, Z, S⟩ := h
  refine (D.crash (by omega) ko kc ks (hK.frame hF (fun _ _ _ _ t => t)) (fun e0 k off e => ?_)).mono ?_
  · obtain ⟨kb, koff, e1, hc⟩ := hK.cells e0
    have hlt : kb < w.heap.size := World.block_lt_of_cell? _ _ (hc 0 e0)
    rw [e1] at e
    injection e with e
    injection e with q1 q2
    subst q1
    rw [S.ch.up kb hlt]
  · rintro e w' ⟨he, R', j1, j2, j3⟩
    exact ⟨he, hide ⟨R', d.crash ks, by rw [Dk.crash_pot]; exact h1, rfl, rfl, fun _ => rfl, j1, Z _ (kept_sub _ _), S.turn j2 j3⟩⟩

theorem BZ.arm (h : BZ w wr hp b n B C ao cap la af OK bx) (k : Int) (hk : k < 9223372036854775808) (x : Bool) : Calls Tryz.prog 29 #[.pointer (some ⟨hp, 0, none⟩), .int .i64 k, .bool x] wr fun e w' => e = .returned (.tuple #[]) ∧ Hid (BZ w w' hp b n B C ao cap la false OK bx) := by
  obtain ⟨R, d, h1, h2, h3, h4, D, Z, S⟩ := h
  refine (D.arm k hk x).mono ?_
  rintro e w' ⟨he, j1, j2⟩
  exact ⟨he, hide ⟨R, d.arm k x, h1, h2, h3, fun t => (by cases t), j1, Z, S.turn (UpR.refl _ _) j2⟩⟩

theorem BZ.disk (h : BZ w wr hp b n B C ao cap la af OK bx) : Calls Tryz.prog 21 #[.pointer (some ⟨hp, 0, none⟩)] wr fun e w' => ∃ q, e = .returned (.pointer (some ⟨q, 0, none⟩)) ∧ Hid (BZq w w' hp b n B C ao cap la af OK bx q) := by
  obtain ⟨R, d, h1, h2, h3, h4, D, Z, S⟩ := h
  refine D.disk.mono ?_
  rintro e w' ⟨R', q, he, k1, k2, k3, k4⟩
  exact ⟨q, he, hide ⟨R', d, h1, h2, h3, h4, k2, k1, Z, S.turn k3 (k4.mono (fun _ _ t => t.elim))⟩⟩

/-- Open: refused, or a row is found that meets OK. -/
theorem BZq.open {q : Nat} (h : BZq w wr hp b n B C ao cap la af OK bx q) (h4 : 4 ≤ n) (hm : n ≤ 1048576) (hB : B + 180 * hlf n + 600000 < 2199023255552) (hC : C ≤ 140737488355328) :
    Calls Tryz.prog 20 #[.pointer (some ⟨q, 0, none⟩)] wr fun e w' => (af = false ∧ e = .returned (.tuple #[.pointer none, .slice none 0 0, errV 5]) ∧ Hid (BQ w w' hp b n (B + 180 * hlf n + 6) (C + 1 + hlf n) ao cap la true OK bx)) ∨
      ∃ lg ro rc l', e = .returned (.tuple #[.pointer (some ⟨lg, 0, none⟩), .slice ro (List.length l') rc, .nilIface]) ∧ Hid (OK l' ∧ l'.length ≤ 140737488355328 ∧ BQ w w' hp b n (B + 180 * hlf n + 6) (C + 1 + hlf n) ao cap la false OK bx ∧ RecsP (fun _ => True) w' ro rc l' ∧ (la.length ≤ 140737488355328 → RecsP (fun _ => True) w' ao cap la)) := by
  obtain ⟨R, d, h1, h2, h3, h5, D, kd, ⟨G, hh, a, rs, s, g, gs, gf, gC, gO⟩, S⟩ := h
  refine (D.reopen kd h2 h4 hm (by omega) g (by omega) gf gs).mono ?_
  rintro e w' ⟨r, R', G', m, g1, g2, m1, m2, hr, j1, j2, j3, j4, j5, j6⟩
  have hf := Dk.run_flags (anewActs (2 + (1 - hh) * hlf n) G' (rs.take m) (1 - a) (hsec G' (1 - hh))) d
  have hp := Dk.run_pot (anewActs (2 + (1 - hh) * hlf n) G' (rs.take m) (1 - a) (hsec G' (1 - hh))) d
  have hfm := strm_take_fit rs m (hlf n) m2 gf
  have hn := nputs_hlf (rs.take m) (hlf n) hfm
  rw [← hr] at hf hp
  rw [anewActs_length] at hp
  have hOm : OK (rs.take m) := gO m m1 m2
  have hZ : ∀ sub, List.Sublist sub r.1.wait → Zc n (C + 1 + hlf n) OK (over r.1.safe sub) := by
    intro sub hs
    rcases j4 sub hs with o | o
    · obtain ⟨sub0, q1, q2⟩ := o
      rw [h3] at q1
      have e0 : sub0 = [] := List.eq_nil_of_sublist_nil q1
      subst e0
      have hlk : d.look = d.safe := by rw [Dk.look, h3]; rfl
      rw [D.many] at q2
      have gg : Gd n (over r.1.safe sub) G hh a rs s := g.congr (by rw [q2 0 (.inl (by omega)), hlk]; rfl) (by rw [q2 1 (.inl (by omega)), hlk]; rfl) (fun k hk => by rw [q2 k (.inr hk), hlk]; rfl)
      exact ⟨G, hh, a, rs, s, gg, gs, gf, by omega, gO⟩
    · exact ⟨G', 1 - hh, 1 - a, rs.take m, (rs.take m).length, o, Nat.le_refl _, hfm, by omega, fun m' x1 x2 => by rw [show m' = (rs.take m).length by omega, List.take_length]; exact hOm⟩
  have S' := S.turn j1 j2
  cases h0 : r.2 with
  | true =>
    refine .inl ⟨?_, j5 h0, hide ⟨R', r.1, by omega, by rw [hf.2.2, h0]; rfl, j3, hZ, S'⟩⟩
    cases haf : af with
    | false => rfl
    | true =>
      have := Dk.run_free (anewActs (2 + (1 - hh) * hlf n) G' (rs.take m) (1 - a) (hsec G' (1 - hh))) d (h5 haf)
      rw [← hr, h0] at this
      cases this
  | false =>
    obtain ⟨lg, ro, rc, e1, e2, e3, e4⟩ := j6 h0
    obtain ⟨g0, A, X⟩ := S'.ex
    refine .inr ⟨lg, ro, rc, rs.take m, e1, hide ⟨hOm, e4.small, ⟨R', r.1, by omega, by rw [hf.2.2, h0]; exact h2, j3, hZ, S'⟩, e4.mono (fun _ _ _ => trivial), fun hl => (A.recs S'.ch hl).mono (fun _ _ _ => trivial)⟩⟩

end

end Go.Proofs.YtdbmmbnbgndllaaGreatDoor

