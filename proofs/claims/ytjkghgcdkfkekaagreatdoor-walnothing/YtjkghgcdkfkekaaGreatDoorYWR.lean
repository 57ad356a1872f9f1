import Derived.Test.YtjkghgcdkfkekaaGreatDoorYWQ
import Derived.Test.YtjkghgcdkfkekaaGreatDoorYOX
/- A log with power and the row of what it should tell: what each call makes of both. -/
namespace Go.Proofs.YtjkghgcdkfkekaaGreatDoor
open Go.RowKit

theorem i64_and31 (n : Int) : bits .and .i64 n 31 = n % 32 := by
  have h31 : (BitVec.ofInt 64 31).toNat = 2 ^ 5 - 1 := by decide
  have key : (BitVec.ofInt 64 n &&& BitVec.ofInt 64 31).toNat = (n % ((2 ^ 64 : Nat) : Int)).toNat % 2 ^ 5 := by
    rw [BitVec.toNat_and, BitVec.toNat_ofInt, h31, Nat.and_two_pow_sub_one_eq_mod]
  show IntKind.i64.wrap ((BitVec.ofInt 64 n &&& BitVec.ofInt 64 31).toNat : Nat) = n % 32
  rw [key, IntKind.wrap_i64]
  omega

theorem PW.mono {w0 w : World} {R0 R : Nat → Nat} {hp b p l n : Nat} {rs : List Bs} {s num B C B' C' : Nat} (P : PW w0 w R0 R hp b p l n rs s num B C) (hB : B ≤ B') (hC : C ≤ C') : PW w0 w R0 R hp b p l n rs s num B' C' := by
  obtain ⟨d, G, h, a, h1, h2, h3, L, c⟩ := P
  exact ⟨d, G, h, a, h1, by omega, by omega, L, c⟩

/-- Boxes of clients. -/
def Bxs (wr : World) (R : Nat → Nat) (cap g : Nat) (bx : List (Nat × Array Value × TypeId)) : Prop := ∀ x ∈ bx, Bx wr x.1 x.2.1 x.2.2 ∧ R x.1 = 0 ∧ (0 < cap → x.1 ≠ g)
theorem Bxs.nil (wr : World) (R : Nat → Nat) (cap g : Nat) : Bxs wr R cap g [] := fun x hx => by cases hx
theorem Bxs.turn {w w' : World} {R R' : Nat → Nat} {cap g : Nat} {bx : List (Nat × Array Value × TypeId)} (h : Bxs w R cap g bx) (hU : UpR w R R') (hF : Fr (fun k => R k ≠ 0) w w') : Bxs w' R' cap g bx :=
  fun x hx => ⟨(h x hx).1.frame hF (fun t => t (h x hx).2.1), by rw [hU _ (h x hx).1.lt]; exact (h x hx).2.1, (h x hx).2.2⟩
theorem Bxs.keep {w w' : World} {R : Nat → Nat} {cap g : Nat} {bx : List (Nat × Array Value × TypeId)} (h : Bxs w R cap g bx) (hF : Fr (fun _ => False) w w') : Bxs w' R cap g bx := h.turn (UpR.refl _ _) (hF.mono (fun _ _ t => t.elim))

/-- A log with power (lp), and a row of records (la). -/
def BK (w wr : World) (hp b n B C N : Nat) (lg : Nat) (ao : Option Addr) (cap : Nat) (lp la : List Bs) (bx : List (Nat × Array Value × TypeId)) : Prop :=
  ∃ R p g s num, PW w wr (fun _ => 0) R hp b p lg n lp s num B C ∧ num ≤ N ∧ AllAt w wr R ao cap g la ∧ Bxs wr R cap g bx

/-- The same, where all is safe. -/
def BKS (w wr : World) (hp b n B C N : Nat) (lg : Nat) (ao : Option Addr) (cap : Nat) (lp la : List Bs) (bx : List (Nat × Array Value × TypeId)) : Prop :=
  ∃ R p g num, PW w wr (fun _ => 0) R hp b p lg n lp lp.length num B C ∧ num ≤ N ∧ AllAt w wr R ao cap g la ∧ Bxs wr R cap g bx

/-- A disk with power and a log on it, and a row of records. -/
def BD (w wr : World) (hp b n B C : Nat) (ao : Option Addr) (cap : Nat) (lp la : List Bs) (bx : List (Nat × Array Value × TypeId)) : Prop :=
  ∃ R g, PD w wr (fun _ => 0) R hp b n lp B C ∧ AllAt w wr R ao cap g la ∧ Bxs wr R cap g bx

section
variable {w wr w' : World} {hp b n B C N lg : Nat} {ao : Option Addr} {cap : Nat} {lp la : List Bs} {bx : List (Nat × Array Value × TypeId)}

theorem BK.keep (h : BK w wr hp b n B C N lg ao cap lp la bx) (hF : Fr (fun _ => False) wr w') : BK w w' hp b n B C N lg ao cap lp la bx := by
  obtain ⟨R, p, g, s, num, h1, h2, h3, hx'⟩ := h
  exact ⟨R, p, g, s, num, h1.keep hF, h2, h3.keep hF, hx'.keep hF⟩

theorem BK.mono {B' C' N' : Nat} (h : BK w wr hp b n B C N lg ao cap lp la bx) (hB : B ≤ B') (hC : C ≤ C') (hN : N ≤ N') : BK w wr hp b n B' C' N' lg ao cap lp la bx := by
  obtain ⟨R, p, g, s, num, h1, h2, h3, hx'⟩ := h
  exact ⟨R, p, g, s, num, h1.mono hB hC, by omega, h3, hx'⟩

theorem BK.fit (h : BK w wr hp b n B C N lg ao cap lp la bx) : (strm lp).length ≤ 504 * hlf n ∧ 12 * lp.length ≤ (strm lp).length := by
  obtain ⟨R, p, g, s, num, h1, h2, h3, hx'⟩ := h
  exact h1.fit

theorem BK.fr (h : BK w wr hp b n B C N lg ao cap lp la bx) : Fr (fun _ => False) w wr := by
  obtain ⟨R, p, g, s, num, h1, h2, h3, hx'⟩ := h
  exact h1.chain.fr.mono (fun k _ t => t rfl)

theorem BK.room (h : BK w wr hp b n B C N lg ao cap lp la bx) (h4 : 4 ≤ n) (hm : n ≤ 1048576) : Calls Tryz.prog 33 #[.pointer (some ⟨lg, 0, none⟩)] wr fun e w' => e = .returned (.int .i64 (504 * (hlf n : Int) - (bgn (strm lp).length : Int) - 12)) ∧ Hid (Fr (fun _ => False) wr w') := by
  obtain ⟨R, p, g, s, num, h1, h2, h3, hx'⟩ := h
  exact (h1.room h4 hm).mono (fun e w' h => ⟨h.1, hide h.2⟩)

theorem BK.records (h : BK w wr hp b n B C N lg ao cap lp la bx) : Calls Tryz.prog 36 #[.pointer (some ⟨lg, 0, none⟩)] wr fun e w' => e = .returned (.int .i64 (lp.length : Int)) ∧ w' = wr := by
  obtain ⟨R, p, g, s, num, h1, h2, h3, hx'⟩ := h
  exact h1.records

theorem BK.append (h : BK w wr hp b n B C N lg ao cap lp la bx) (h4 : 4 ≤ n) (hm : n ≤ 1048576) (hB : B + 600000 < 2199023255552) (xo : Option Addr) (xc : Nat) (x : Bs) (hx : BAt w xo xc x) (hfit : (strm (lp ++ [x])).length ≤ 504 * hlf n) :
    Calls Tryz.prog 12 #[.pointer (some ⟨lg, 0, none⟩), .slice xo x.length xc] wr fun e w' => e = .returned .nilIface ∧ Hid (BK w w' hp b n (B + 2 * hlf n) C N lg ao cap (lp ++ [x]) la bx) := by
  have hF := h.fr
  obtain ⟨R, p, g, s, num, h1, h2, h3, hx'⟩ := h
  refine (h1.append h4 hm hB xo xc x (hx.later hF) (fun b' off h0 e => ?_) hfit).mono ?_
  · obtain ⟨b2, off2, e2, hc⟩ := hx.2.1 h0
    rw [e2] at e
    injection e with e
    injection e with q1 q2
    subst q1
    rw [h1.chain.up b2 (World.block_lt_of_cell? _ _ (hc 0 h0))]
  · rintro e w' ⟨he, R', j1, j2, j3⟩
    exact ⟨he, hide ⟨R', p, g, s, num, j3, h2, h3.turn j1 j2, hx'.turn j1 j2⟩⟩

theorem BK.appendFull (h : BK w wr hp b n B C N lg ao cap lp la bx) (h4 : 4 ≤ n) (hm : n ≤ 1048576) (xo : Option Addr) (xc : Nat) (x : Bs) (hno : 504 * hlf n < (strm (lp ++ [x])).length) :
    Calls Tryz.prog 12 #[.pointer (some ⟨lg, 0, none⟩), .slice xo x.length xc] wr fun e w' => e = .returned (errV 91) ∧ Hid (BK w w' hp b n B C N lg ao cap lp la bx) := by
  have h' := h
  obtain ⟨R, p, g, s, num, h1, h2, h3, hx'⟩ := h
  exact (h1.appendFull h4 hm xo xc x hno).mono (fun e w' k => ⟨k.1, hide (h'.keep k.2)⟩)

theorem BK.rewrite (h : BK w wr hp b n B C N lg ao cap lp la bx) (h4 : 4 ≤ n) (hm : n ≤ 1048576) (hB : B + 180 * hlf n + 600000 < 2199023255552) (hC : C ≤ 140737488355328) (hN : N < 4611686018427387904) (ro : Option Addr) (rc : Nat) (rs : List Bs) (hR : RecsP (fun _ => True) w ro rc rs) (hfit : (strm rs).length ≤ 504 * hlf n) :
    Calls Tryz.prog 28 #[.pointer (some ⟨lg, 0, none⟩), .slice ro rs.length rc] wr fun e w' => e = .returned .nilIface ∧ Hid (BK w w' hp b n (B + 180 * hlf n + 6) (C + 1 + hlf n) (N + 1) lg ao cap rs la bx) := by
  have hF := h.fr
  obtain ⟨R, p, g, s, num, h1, h2, h3, hx'⟩ := h
  have hR' : RecsP (fun k => R k = 0) wr ro rc rs := ((hR.mono (Q := fun k => k < w.heap.size) (fun k hk _ => hk)).frame hF (fun _ _ t => t)).mono (fun k _ hk => by rw [h1.chain.up k hk])
  refine (h1.rewrite h4 hm hB hC (by omega) ro rc rs hR' hfit).mono ?_
  rintro e w' ⟨he, R', j1, j2, j3⟩
  exact ⟨he, hide ⟨R', p, g, rs.length, num + 1, j3, by omega, h3.turn j1 j2, hx'.turn j1 j2⟩⟩

theorem BK.rewriteFull (h : BK w wr hp b n B C N lg ao cap lp la bx) (ro : Option Addr) (rc : Nat) (rs : List Bs) (hR : RecsP (fun _ => True) w ro rc rs) (hno : 504 * hlf n < (strm rs).length) :
    Calls Tryz.prog 28 #[.pointer (some ⟨lg, 0, none⟩), .slice ro rs.length rc] wr fun e w' => e = .returned (errV 91) ∧ Hid (BK w w' hp b n B C N lg ao cap lp la bx) := by
  have hF := h.fr
  have h' := h
  obtain ⟨R, p, g, s, num, h1, h2, h3, hx'⟩ := h
  have hR' : RecsP (fun k => R k = 0) wr ro rc rs := ((hR.mono (Q := fun k => k < w.heap.size) (fun k hk _ => hk)).frame hF (fun _ _ t => t)).mono (fun k _ hk => by rw [h1.chain.up k hk])
  exact (h1.rewriteFull ro rc rs hR' hno).mono (fun e w' k => ⟨k.1, hide (h'.keep k.2)⟩)

theorem BK.sync (h : BK w wr hp b n B C N lg ao cap lp la bx) (hB : B + 600000 < 2199023255552) :
    Calls Tryz.prog 35 #[.pointer (some ⟨lg, 0, none⟩)] wr fun e w' => e = .returned .nilIface ∧ Hid (BKS w w' hp b n (B + 2) C N lg ao cap lp la bx) := by
  obtain ⟨R, p, g, s, num, h1, h2, h3, hx'⟩ := h
  refine (h1.sync hB).mono ?_
  rintro e w' ⟨he, R', j1, j2, j3⟩
  exact ⟨he, hide ⟨R', p, g, num, j3, h2, h3.turn j1 j2, hx'.turn j1 j2⟩⟩

theorem BKS.crash0 (h : BKS w wr hp b n B C N lg ao cap lp la bx) (hB : B + 600000 < 1099511627776) :
    Calls Tryz.prog 25 #[.pointer (some ⟨hp, 0, none⟩), .slice none 0 0] wr fun e w' => e = .returned (.tuple #[]) ∧ Hid (BD w w' hp b n B C ao cap lp la bx) := by
  obtain ⟨R, p, g, num, h1, h2, h3, hx'⟩ := h
  refine (h1.crash hB none 0 [] ⟨fun h => (by cases h), by decide⟩ (fun h => by cases h)).mono ?_
  rintro e w' ⟨he, R', j1, j2, j3⟩
  exact ⟨he, hide ⟨R', g, j3, h3.turn j1 j2, hx'.turn j1 j2⟩⟩

theorem BKS.bd (h : BKS w wr hp b n B C N lg ao cap lp la bx) : BD w wr hp b n B C ao cap lp la bx := by
  obtain ⟨R, p, g, num, h1, h2, h3, hx'⟩ := h
  exact ⟨R, g, h1.pd, h3, hx'⟩

theorem BK.bd (h : BK w wr hp b n B C N lg ao cap lp la bx) : BD w wr hp b n B C ao cap lp la bx := by
  obtain ⟨R, p, g, s, num, h1, h2, h3, hx'⟩ := h
  exact ⟨R, g, h1.pd, h3, hx'⟩

theorem BD.disk (h : BD w wr hp b n B C ao cap lp la bx) : Calls Tryz.prog 11 #[.pointer (some ⟨hp, 0, none⟩)] wr fun e w' => ∃ q, e = .returned (.pointer (some ⟨q, 0, none⟩)) ∧ Hid (∃ R g, Dsk w' R q b n ∧ PD w w' (fun _ => 0) R hp b n lp B C ∧ AllAt w w' R ao cap g la ∧ Bxs w' R cap g bx) := by
  obtain ⟨R, g, h1, h2, hx'⟩ := h
  refine h1.disk.mono ?_
  rintro e w' ⟨R', q, he, k1, k2, k3, k4⟩
  exact ⟨q, he, hide ⟨R', g, k1, k4, h2.turn k2 (k3.mono (fun _ _ t => t.elim)), hx'.turn k2 (k3.mono (fun _ _ t => t.elim))⟩⟩

/-- Open, then the two rows held against each other. -/
theorem BD.open {q : Nat} (h : Hid (∃ R g, Dsk wr R q b n ∧ PD w wr (fun _ => 0) R hp b n lp B C ∧ AllAt w wr R ao cap g la ∧ Bxs wr R cap g bx)) (h4 : 4 ≤ n) (hm : n ≤ 1048576) (hB : B + 180 * hlf n + 600000 < 2199023255552) (hC : C ≤ 140737488355328) (hla : la.length ≤ 140737488355328) :
    Calls Tryz.prog 10 #[.pointer (some ⟨q, 0, none⟩)] wr fun e w' => ∃ lg ro rc, e = .returned (.tuple #[.pointer (some ⟨lg, 0, none⟩), .slice ro lp.length rc, .nilIface]) ∧ Hid (BK w w' hp b n (B + 180 * hlf n + 6) (C + 1 + hlf n) 1 lg ao cap lp la bx ∧
      Calls Tryz.prog 13 #[.slice ro lp.length rc, .slice ao la.length cap] w' fun e w'' => e = .returned (.bool (sameF lp la)) ∧ Hid (Fr (fun _ => False) w' w'')) := by
  obtain ⟨R, g, k, P, A, hx'⟩ := unhide h
  refine (P.open k h4 hm hB hC).mono ?_
  rintro e w' ⟨lg, ro, rc, he, R', j1, j2, j3, j4⟩
  have A' := A.turn j1 j2
  refine ⟨lg, ro, rc, he, hide ⟨⟨R', q, g, lp.length, 1, j3, Nat.le_refl _, A', hx'.turn j1 j2⟩, ?_⟩⟩
  exact (same_any w' ro ao rc cap lp la j4 (A'.recs j3.chain hla)).mono (fun e w'' k => ⟨k.1, hide k.2⟩)

theorem BK.recs (h : BK w wr hp b n B C N lg ao cap lp la bx) (hla : la.length ≤ 140737488355328) : Recs wr ao cap la := by
  obtain ⟨R, p, g, s, num, h1, h2, h3, hx'⟩ := h
  exact (h3.recs h1.chain hla).recs

/-- A box of the client's. -/
theorem BK.box (h : BK w wr hp b n B C N lg ao cap lp la bx) {x : Nat × Array Value × TypeId} (hx : x ∈ bx) : Bx wr x.1 x.2.1 x.2.2 := by
  obtain ⟨R, p, g, s, num, h1, h2, h3, hx'⟩ := h
  exact (hx' x hx).1

/-- A new box. -/
theorem BK.new (h : BK w wr hp b n B C N lg ao cap lp la bx) (cs : Array Value) (t : TypeId) : BK w (wr.alloc (.cells cs t)) hp b n B C N lg ao cap lp la ((wr.heap.size, cs, t) :: bx) := by
  obtain ⟨R, p, g, s, num, h1, h2, h3, hx'⟩ := h
  have hF : Fr (fun _ => False) wr (wr.alloc (.cells cs t)) := (Fr.refl _ _).alloc _
  refine ⟨R, p, g, s, num, h1.keep hF, h2, h3.keep hF, fun x hx => ?_⟩
  rcases List.mem_cons.1 hx with rfl | hx
  · exact ⟨Bx.new _ _ _, h1.zero _ (Nat.le_refl _), fun hc => by obtain ⟨vs, hv, _⟩ := h3.ex; have := hv.lt hc; show wr.heap.size ≠ g; omega⟩
  · exact hx'.keep hF x hx

theorem BK.less (h : BK w wr hp b n B C N lg ao cap lp la bx) : BK w wr hp b n B C N lg ao cap lp la [] := by
  obtain ⟨R, p, g, s, num, h1, h2, h3, hx'⟩ := h
  exact ⟨R, p, g, s, num, h1, h2, h3, Bxs.nil _ _ _ _⟩

/-- What append asks of the row, and gives back. -/
theorem BK.grow (hT : TabAt w) (h : BK w wr hp b n B C N lg ao cap lp la bx) : ∃ R g, AllAt w wr R ao cap g la ∧ (∀ k, wr.heap.size ≤ k → R k = 0) ∧ w.heap.size ≤ wr.heap.size ∧
    ∀ w' ao' cap' g' la', AllAt w w' R ao' cap' g' la' → Fr (fun k => k = g ∧ 0 < cap) wr w' → (g' = g ∧ cap' = cap ∨ wr.heap.size ≤ g') → BK w w' hp b n B C N lg ao' cap' lp la' bx := by
  obtain ⟨R, p, g, s, num, h1, h2, h3, hx'⟩ := h
  refine ⟨R, g, h3, h1.zero, h1.chain.fr.size, fun w' ao' cap' g' la' hA hF hg => ⟨R, p, g', s, num, h1.own hT hF (fun k hk t => by rw [t.1]; exact h3.own t.2), h2, hA, fun x hx => ?_⟩⟩
  obtain ⟨b1, b2, b3⟩ := hx' x hx
  refine ⟨b1.frame hF (fun t => b3 t.2 t.1), b2, fun hc => ?_⟩
  have := b1.lt
  rcases hg with ⟨e1, e2⟩ | e1
  · rw [e1]; exact b3 (by omega)
  · omega

/-- The same of an empty row. -/
theorem BK.anew (h : BK w wr hp b n B C N lg ao cap lp la bx) : ∃ R, (∀ g a, AllAt w wr R a 0 g []) ∧ (∀ k, wr.heap.size ≤ k → R k = 0) ∧ w.heap.size ≤ wr.heap.size ∧
    ∀ w' ao' cap' g' la', AllAt w w' R ao' cap' g' la' → Fr (fun _ => False) wr w' → (0 < cap' → wr.heap.size ≤ g') → BK w w' hp b n B C N lg ao' cap' lp la' bx := by
  obtain ⟨R, p, g, s, num, h1, h2, h3, hx'⟩ := h
  refine ⟨R, fun g a => ⟨⟨[], ⟨Nat.le_refl _, by decide, fun h => absurd h (by decide), fun j hj => absurd hj (by omega), fun j hj => absurd hj (by simp), fun u hu => by cases hu⟩, rfl, fun i h => absurd h (by simp)⟩, fun h => absurd h (by decide)⟩, h1.zero, h1.chain.fr.size, fun w' ao' cap' g' la' hA hF hg => ⟨R, p, g', s, num, h1.keep hF, h2, hA, fun x hx => ?_⟩⟩
  obtain ⟨b1, b2, b3⟩ := hx' x hx
  exact ⟨b1.keep hF, b2, fun hc => by have := b1.lt; have := hg hc; omega⟩

end

end Go.Proofs.YtjkghgcdkfkekaaGreatDoor

