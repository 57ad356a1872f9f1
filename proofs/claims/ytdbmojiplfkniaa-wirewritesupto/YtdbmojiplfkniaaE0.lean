/- A reader and a writer side by side ('RW'); a new reader whose bytes' block is there. -/
import Derived.Test.YtdbmojiplfkniaaM3
import Derived.Test.YtdbmojiplfkniaaC4
import Derived.Test.YtdbmojiplfkniaaC5
import Derived.Test.YtdbmojiplfkniaaD1
namespace Go.Proofs.Ytdbmojiplfkniaa
open Go.RowKit

def NewR2 (w : World) (bs : List UInt8) (e : Ending) (w' : World) : Prop :=
  ∃ p g, e = .returned (.pointer (some ⟨p, 0, none⟩)) ∧ (RS.mk 0 0 0 0).At w' p g bs ∧ Fr (fun _ => False) w w' ∧ w.heap.size ≤ g ∧ w.heap.size ≤ p ∧ g < w'.heap.size

theorem newreader2 (w : World) (ao : Option Addr) (cap : Nat) (bs : List UInt8) (hb : BAt w ao cap bs) :
    Calls Try.prog 17 #[.slice ao bs.length cap] w (NewR2 w bs) := by
  have HC := hide (clone_any w ao cap bs hb.1 hb.2.1 hb.2.2)
  have hf2 := hb.2.2
  clear hb
  go_enter Try.func17, Try.ntmps17
  go_wp2_with fail
  refine (unhide HC).mono ?_
  rintro e w1 ⟨v, g, rfl, hrow, hfr, hg⟩
  obtain ⟨ao', cap', rfl, h1, h2, h3, h4⟩ := hrow.shape
  have HR := hide (And.intro hrow (And.intro hfr (And.intro hg (And.intro h1 (And.intro h2 (And.intro h3 h4))))))
  clear hrow hfr hg h1 h2 h3 h4 HC
  go_wp2
  go_ret
  obtain ⟨hrow, hfr, hg, h1, h2, h3, h4⟩ := unhide HR
  by_cases hc : 0 < cap'
  · have hgl : g < w1.heap.size := by
      obtain ⟨u, hu⟩ := Option.isSome_iff_exists.1 (h4 0 hc).1
      exact World.block_lt_of_cell? _ _ hu
    refine ⟨w1.heap.size, g, rfl, ⟨⟨ao', cap', by simp, h1, h2, h3⟩, by simp, by simp, by simp, by simp, fun i _ => World.frozen?_alloc_new _ _ _ _, fun j hj => ?_, fun h0 => Nat.ne_of_lt hgl, Nat.zero_le _, hf2⟩, hfr.alloc _, hg, hfr.size, by simp; omega⟩
    have hcl := hrow.cells j hj
    exact (World.cell?_alloc_lt _ _ _ (World.block_lt_of_cell? _ _ hcl)).trans hcl
  · refine ⟨w1.heap.size, w1.heap.size, rfl, ⟨⟨ao', cap', by simp, h1, h2, fun t => absurd t hc⟩, by simp, by simp, by simp, by simp, fun i _ => World.frozen?_alloc_new _ _ _ _, fun j hj => absurd hj (by omega), fun h0 => absurd h0 (by omega), Nat.zero_le _, hf2⟩, hfr.alloc _, hfr.size, hfr.size, by simp⟩

/-- A reader and a writer that the call itself made, apart from each other; nothing that was there has turned. -/
structure RW (w wk : World) (rp rg : Nat) (bs : List UInt8) (s : RS) (p g : Nat) (st : Option (List UInt8)) : Prop where
  fr : Fr (fun _ => False) w wk
  rpw : w.heap.size ≤ rp
  pw : w.heap.size ≤ p
  gw : w.heap.size ≤ g
  d1 : rp ≠ p
  d2 : rp ≠ g
  d3 : rg ≠ p
  d4 : rg ≠ g
  rl : rg < wk.heap.size
  r : s.At wk rp rg bs
  st : WSt wk p g st

theorem WSt.frame {S : Nat → Prop} {w w' : World} {p g : Nat} {s : Option (List UInt8)} (h : WSt w p g s) (hf : Fr S w w') (hp : ¬ S p) (hg : ¬ S g) : WSt w' p g s := by
  cases s with
  | some bs => exact WAt.frame h hf hp hg
  | none => exact (hf.cell (a := ⟨p, 1, none⟩) (WSt.lt h) hp).trans h

section
variable {w wk wk' : World} {rp rg : Nat} {bs : List UInt8} {s s' : RS} {p g : Nat} {st st' : Option (List UInt8)}

theorem RW.reader (h : RW w wk rp rg bs s p g st) (hr : s'.At wk' rp rg bs) (hf : Fr (· = rp) wk wk') : RW w wk' rp rg bs s' p g st :=
  ⟨h.fr.trans hf (fun i hi t => by have t' : i = rp := t; have := h.rpw; omega), h.rpw, h.pw, h.gw, h.d1, h.d2, h.d3, h.d4, Nat.lt_of_lt_of_le h.rl hf.size, hr,
    h.st.frame hf (fun t => h.d1 t.symm) (fun t => h.d2 t.symm)⟩

theorem RW.writer (h : RW w wk rp rg bs s p g st) (hp : WPuts p g st' wk wk') : ∃ g', RW w wk' rp rg bs s p g' st' := by
  obtain ⟨g', k1, k2, k3⟩ := hp
  have hrl := RAt.lt h.r
  have hrg := h.rl
  have hsz := h.fr.size
  refine ⟨g', h.fr.trans k2 (fun i hi t => by have h1 := h.pw; have h2 := h.gw; omega), h.rpw, h.pw, ?_, h.d1, ?_, h.d3, ?_, Nat.lt_of_lt_of_le h.rl k2.size, RAt.frame h.r k2 (fun t => t.elim h.d1 h.d2) (fun t => t.elim h.d3 h.d4), k1⟩
  · have := h.gw; rcases k3 with k3 | k3 <;> omega
  · have := h.d2; rcases k3 with k3 | k3
    · rw [k3]; exact this
    · omega
  · have := h.d4; rcases k3 with k3 | k3
    · rw [k3]; exact this
    · omega

theorem RW.alloc (h : RW w wk rp rg bs s p g st) (o : Obj) : RW w (wk.alloc o) rp rg bs s p g st :=
  ⟨h.fr.alloc o, h.rpw, h.pw, h.gw, h.d1, h.d2, h.d3, h.d4, by have := h.rl; simp; omega, RAt.alloc h.r o, h.st.alloc o⟩

theorem RW.drewN (h : RW w wk rp rg bs s p g st) (n : Nat) : RW w (wk.drewN n) rp rg bs s p g st :=
  ⟨h.fr.drewN n, h.rpw, h.pw, h.gw, h.d1, h.d2, h.d3, h.d4, h.rl, RAt.drewN h.r n, h.st.frame (S := fun _ => False) ((Fr.refl _ _).drewN n) (fun t => t) (fun t => t)⟩

theorem RW.set (h : RW w wk rp rg bs s p g st) {b : Nat} (hb : w.heap.size ≤ b) (h1 : b ≠ rp) (h2 : b ≠ rg) (h3 : b ≠ p) (h4 : b ≠ g) (o : Nat) (v : Value) : RW w (wk.setCell ⟨b, o, none⟩ v) rp rg bs s p g st := by
  have hf : Fr (· = b) wk (wk.setCell ⟨b, o, none⟩ v) := (Fr.refl (· = b) wk).setCell (p := ⟨b, o, none⟩) (fun _ => rfl) v
  exact ⟨h.fr.trans hf (fun i hi t => by have t' : i = b := t; omega), h.rpw, h.pw, h.gw, h.d1, h.d2, h.d3, h.d4, by rw [World.size_setCell]; exact h.rl,
    RAt.frame h.r hf (fun t => h1 t.symm) (fun t => h2 t.symm), h.st.frame hf (fun t => h3 t.symm) (fun t => h4 t.symm)⟩

theorem RW.glt (h : RW w wk rp rg bs s p g (some (bs.take s.a))) : g < wk.heap.size := WAt.glt h.st
theorem RW.plt (h : RW w wk rp rg bs s p g st) : p < wk.heap.size := h.st.lt

end
end Go.Proofs.Ytdbmojiplfkniaa
