/- The walk of HashPlays: what each call of the script makes of what is held. -/
import Derived.Test.YtchdjfhenjbcnaaDoorQ0
import Derived.Test.YtchdjfhenjbcnaaDoorQ1
import Derived.Test.YtchdjfhenjbcnaaDoorQ2
import Derived.Test.YtchdjfhenjbcnaaDoorR5
import Derived.Test.YtchdjfhenjbcnaaDoorL1
import Derived.Test.YtchdjfhenjbcnaaDoorI3
import Derived.Test.YtchdjfhenjbcnaaDoorW3
namespace Go.Proofs.YtchdjfhenjbcnaaDoor
open Go.RowKit

theorem and1 (z : Int) : ∃ k : Nat, k < 2 ∧ bits .and .i64 z 1 = (k : Int) := by
  refine ⟨(BitVec.ofInt 64 z &&& BitVec.ofInt 64 1).toNat, ?_, ?_⟩
  · rw [BitVec.toNat_and]
    exact Nat.lt_of_le_of_lt Nat.and_le_right (by decide)
  · have h : (BitVec.ofInt 64 z &&& BitVec.ofInt 64 1).toNat < 2 := by
      rw [BitVec.toNat_and]
      exact Nat.lt_of_le_of_lt Nat.and_le_right (by decide)
    show IntKind.i64.wrap ((BitVec.ofInt 64 z &&& BitVec.ofInt 64 1).toNat : Int) = _
    rw [IntKind.wrap_i64]
    omega

/-- What is held at the head of the loop: all that was said, of some hashes and bytes of at most N each. -/
def Held (w wr : World) (t u : Nat) (lo : Option Addr) (lcap m N : Nat) (P : Nat → Nat) (L : Nat → List UInt8) (ao : Nat → Option Addr) (cap : Nat → Nat) : Prop :=
  ∃ G lg ds R, PI w wr t u P L L ao cap G lo lcap lg m ds R ∧ ∀ k, k < 2 → (L k).length ≤ N

section
variable {w wr w1 : World} {t u : Nat} {P : Nat → Nat} {L M : Nat → List UInt8} {ao : Nat → Option Addr} {cap G : Nat → Nat} {lo : Option Addr} {lcap lg m N : Nat} {ds : Nat → RD} {R : Nat → Nat}

theorem Held.more (h : Held w wr t u lo lcap m N P L ao cap) {N' : Nat} (hN : N ≤ N') : Held w wr t u lo lcap m N' P L ao cap := by
  obtain ⟨G, lg, ds, R, h1, h2⟩ := h
  exact ⟨G, lg, ds, R, h1, fun k hk => Nat.le_trans (h2 k hk) hN⟩
theorem Held.later (h : Held w wr t u lo lcap m N P L ao cap) (hF : Fr (fun _ => False) wr w1) : Held w w1 t u lo lcap m N P L ao cap := by
  obtain ⟨G, lg, ds, R, h1, h2⟩ := h
  exact ⟨G, lg, ds, R, h1.later hF, h2⟩
theorem Held.fr (h : Held w wr t u lo lcap m N P L ao cap) : Fr (fun _ => False) w wr := by
  obtain ⟨G, lg, ds, R, h1, h2⟩ := h
  exact h1.fr
theorem Held.hash (h : Held w wr t u lo lcap m N P L ao cap) (k : Nat) (hk : k < 2) : HAt wr (P k) (L k) ∧ (L k).length ≤ N := by
  obtain ⟨G, lg, ds, R, h1, h2⟩ := h
  exact ⟨h1.ha k hk, h2 k hk⟩
theorem Held.ct (h : Held w wr t u lo lcap m N P L ao cap) (k : Nat) (hk : k < 2) : wr.cell? ⟨t, k, none⟩ = some (.pointer (some ⟨P k, 0, none⟩)) := by
  obtain ⟨G, lg, ds, R, h1, h2⟩ := h
  exact h1.hb.cell k hk
theorem Held.cu (h : Held w wr t u lo lcap m N P L ao cap) (k : Nat) (hk : k < 2) : wr.cell? ⟨u, k, none⟩ = some (.slice (ao k) (L k).length (cap k)) := by
  obtain ⟨G, lg, ds, R, h1, h2⟩ := h
  exact h1.ab.cell k hk
theorem Held.fu (h : Held w wr t u lo lcap m N P L ao cap) (k : Nat) : wr.frozen? ⟨u, k, none⟩ = false := by
  obtain ⟨G, lg, ds, R, h1, h2⟩ := h
  exact h1.ab.frozen k
theorem Held.ft (h : Held w wr t u lo lcap m N P L ao cap) (k : Nat) : wr.frozen? ⟨t, k, none⟩ = false := by
  obtain ⟨G, lg, ds, R, h1, h2⟩ := h
  exact h1.hb.frozen k
theorem Held.bat (h : Held w wr t u lo lcap m N P L ao cap) (k : Nat) (hk : k < 2) (hN : N ≤ 1048576) : BAt wr (ao k) (cap k) (L k) := by
  obtain ⟨G, lg, ds, R, h1, h2⟩ := h
  have := h2 k hk
  exact ((h1.row k hk).bat (by omega)).2
theorem Held.lt (h : Held w wr t u lo lcap m N P L ao cap) : t < wr.heap.size ∧ u < wr.heap.size ∧ t ≠ u ∧ (∀ k, k < 2 → P k ≠ t ∧ P k ≠ u ∧ w.heap.size ≤ P k) ∧ w.heap.size ≤ t ∧ w.heap.size ≤ u := by
  obtain ⟨G, lg, ds, R, h1, h2⟩ := h
  have r1 := h1.rt
  have r2 := h1.ru
  refine ⟨h1.hb.lt, h1.ab.lt, fun e => by rw [e] at r1; omega, fun k hk => ⟨fun e => ?_, fun e => ?_, ?_⟩, ?_, ?_⟩
  · have := h1.rp k hk
    rw [e] at this
    omega
  · have := h1.rp k hk
    rw [e] at this
    omega
  · by_cases hx : P k < w.heap.size
    · have h3 := h1.r0 _ hx
      have := h1.rp k hk
      omega
    · omega
  · by_cases hx : t < w.heap.size
    · have h3 := h1.r0 _ hx
      omega
    · omega
  · by_cases hx : u < w.heap.size
    · have h3 := h1.r0 _ hx
      omega
    · omega

theorem Held.wbat (h : Held w wr t u lo lcap m N P L ao cap) {i : Nat} (hi : i < 2) {l : List UInt8} (hF : Fr (fun k => k = P i) wr w1) (hH : HAt w1 (P i) l) (hN : N ≤ 1048576) : BAt w1 (ao i) (cap i) (L i) := by
  obtain ⟨G, lg, ds, R, h1, h2⟩ := h
  have := h2 i hi
  exact (((h1.wrote hi hF hH).row i hi).bat (by omega)).2

/-- Write: the hash has taken more, and that is noted. -/
theorem Held.play0 (h : Held w wr t u lo lcap m N P L ao cap) {i : Nat} (hi : i < 2) {bs : List UInt8} {wb wd : World} (hF : Fr (fun k => k = P i) wr wb) (hH : HAt wb (P i) (L i ++ bs)) (hF2 : Fr (fun _ => False) wb wd)
    {a : Option Addr} {c g : Nat} {n : Nat} (hn : n = (L i ++ bs).length) (hr : Row wd (.slice a n c) g (L i ++ bs)) (hg : 0 < c → wb.heap.size ≤ g) :
    ∃ L' ao' cap', Held w (wd.setCell ⟨u, i, none⟩ (.slice a n c)) t u lo lcap m (N + bs.length) P L' ao' cap' := by
  obtain ⟨G, lg, ds, R, h1, h2⟩ := h
  subst hn
  refine ⟨_, _, _, _, _, _, _, (h1.wrote hi hF hH).noted hi hF2 hr hg, fun k hk => ?_⟩
  have h3 := h2 k hk
  have h4 := h2 i hi
  by_cases e : k = i
  · subst e
    rw [setAt_at, List.length_append]
    omega
  · rw [setAt_ne _ _ _ e]
    omega

/-- Sum: a digest came out and is laid by. -/
theorem Held.play1 (h : Held w wr t u lo lcap m N P L ao cap) {wd : World} (hF : Fr (fun _ => False) wr wd) {xo : Option Addr} {xc g : Nat} {D : List UInt8} (hD : D.length = 32) (hr : Row wd (.slice xo 32 xc) g D) (hg : wr.heap.size ≤ g)
    (o : Obj) {Post : Prop} (hP : ∀ lg vs, VRow wd lo lcap lg vs → vs.length = m → (∀ lo' lcap' w1 lg', VRow w1 lo' lcap' lg' (vs ++ [.slice xo 32 xc]) → Grew (wd.alloc o) lg lcap w1 lg' lcap' → Held w w1 t u lo' lcap' (m + 1) N P L ao cap) → Post) : Post := by
  obtain ⟨G, lg, ds, R, h1, h2⟩ := h
  have hr' : Row wd (.slice xo D.length xc) g D := by rw [hD]; exact hr
  refine hP lg (vals ds m) (h1.later hF).arow (vals_length ds m) (fun lo' lcap' w1 lg' hv hgr => ?_)
  have hv' : VRow w1 lo' lcap' lg' (vals ds m ++ [(⟨xo, D.length, xc, g⟩ : RD).val]) := by simp only [RD.val, hD]; exact hv
  obtain ⟨R', h3⟩ := h1.app hF (d := ⟨xo, D.length, xc, g⟩) hr'.own (fun _ => hg) (by simp only [hD]; omega) o hv' hgr
  exact ⟨_, _, _, _, h3, h2⟩

/-- Clone: the other has become a clone. -/
theorem Held.play2 (h : Held w wr t u lo lcap m N P L ao cap) {i j : Nat} (hi : i < 2) (hj : j < 2) {q : Nat} {wd : World} (hN : NewH wr (L j) q wd) :
    ∃ P' L' ao' cap', Held w ((wd.setCell ⟨t, i, none⟩ (.pointer (some ⟨q, 0, none⟩))).setCell ⟨u, i, none⟩ (.slice (ao j) (L j).length (cap j))) t u lo lcap m N P' L' ao' cap' ∧ P' i = q := by
  obtain ⟨G, lg, ds, R, h1, h2⟩ := h
  refine ⟨_, _, _, _, ⟨_, _, _, _, (h1.cloned hi hN).alike hi hj, fun k hk => ?_⟩, setAt_at _ _ _⟩
  by_cases e : k = i
  · subst e
    rw [setAt_at]
    exact h2 j hj
  · rw [setAt_ne _ _ _ e]
    exact h2 k hk

theorem PB.later (h : PB w wr t u P L ao cap) (hF : Fr (fun _ => False) wr w1) : PB w w1 t u P L ao cap := by
  obtain ⟨h1, h2, h3, h4, h5⟩ := h
  exact ⟨h1.later hF, h2.later hF, fun k hk => (h3 k hk).later hF, fun k hk => (h4 k hk).imp fun g hg => hg.frame hF (fun t => t), h5.trans hF (fun _ _ t => t)⟩

/-- At the end: the digests are handed to Owned. -/
theorem Held.last (h : Held w wr t u lo lcap m N P L ao cap) (hm : m ≤ 1048576) : ∃ lg ds, Handed wr lg m ds ∧ (0 < m → lo = some ⟨lg, 0, none⟩) ∧ ∀ w1, Fr (fun k => ∃ j, j < m ∧ 0 < (ds j).cap ∧ k = (ds j).g) wr w1 → PB w w1 t u P L ao cap := by
  obtain ⟨G, lg, ds, R, h1, h2⟩ := h
  exact ⟨lg, ds, h1.handed hm, h1.addr, fun w1 hF => h1.behind hF⟩

end

theorem src_row (w : World) (a : Value) (ha : a.oneCell' = true) : Src Tryd.prog 1 27 (.slice (some ⟨w.heap.size, 0, none⟩) 1 1) 1 [a] (w.alloc (.cells #[a] 22)) := by
  refine Src.ofSlice _ Tryd.underlying27 ⟨w.heap.size, 0, none⟩ 1 1 [a] rfl (fun j u hj => ?_) (fun u hu => ?_)
  · match j, hj with
    | 0, hj =>
      cases hj
      rw [Addr.add_lit, World.cell?_alloc_new]
      rfl
    | j + 1, hj => simp at hj
  · cases List.mem_singleton.1 hu
    exact ha

theorem arr2 (a b : Value) (f : Nat → Value) (h0 : f 0 = a) (h1 : f 1 = b) : #[a, b] = arr 2 f := by
  apply Array.ext
  · rw [arr_size]; rfl
  · intro i hi h2
    have hi' : i < 2 := hi
    have : (arr 2 f)[i]? = some (f i) := arr_get 2 f i hi'
    rw [Array.getElem?_eq_getElem h2] at this
    rw [Option.some.inj this]
    match i, hi' with
    | 0, _ => exact h0.symm
    | 1, _ => exact h1.symm

/-- At the beginning. -/
theorem held_start {w w3 : World} {p q : Nat} (hp : HAt w3 p []) (hq : HAt w3 q []) (hF : Fr (fun _ => False) w w3) (h1 : w.heap.size ≤ p) (h2 : p < q) :
    ∃ P, Held w ((w3.alloc (.cells #[.pointer (some ⟨p, 0, none⟩), .pointer (some ⟨q, 0, none⟩)] 32)).alloc (.cells #[.slice none 0 0, .slice none 0 0] 33)) w3.heap.size (w3.heap.size + 1) none 0 0 0 P (fun _ => []) (fun _ => none) (fun _ => 0) := by
  have hpl := hp.lt
  have hql := hq.lt
  have hws := hF.size
  have hF1 : Fr (fun _ => False) w3 (w3.alloc (.cells #[.pointer (some ⟨p, 0, none⟩), .pointer (some ⟨q, 0, none⟩)] 32)) := (Fr.refl _ w3).alloc _
  have hF2 := hF1.alloc (.cells #[.slice none 0 0, .slice none 0 0] 33)
  have e1 : (w3.alloc (.cells #[.pointer (some ⟨p, 0, none⟩), .pointer (some ⟨q, 0, none⟩)] 32)).heap.size = w3.heap.size + 1 := by simp
  refine ⟨fun k => if k = 0 then p else q, fun _ => 0, 0, fun _ => ⟨none, 0, 0, 0⟩, fun x => if x = w3.heap.size then 1 else if x = w3.heap.size + 1 then 2 else if x = p then 3 else if x = q then 4 else 0, ⟨?_, ?_, fun k hk => ?_, fun k hk => ?_, hF.trans hF2 (fun _ _ t => t), VRow.nil _ _, fun j hj => absurd hj (by omega), fun j hj => absurd hj (by omega), ?_, ?_, fun k hk => ?_, fun k hk hc => absurd hc (by omega), fun hc => absurd hc (by omega), fun j hj => absurd hj (by omega), fun x hx => ?_⟩, fun k hk => ?_⟩
  · refine Blk.alloc ?_ _
    have := heap_alloc_new w3 (.cells #[.pointer (some ⟨p, 0, none⟩), .pointer (some ⟨q, 0, none⟩)] 32)
    rw [arr2 (.pointer (some ⟨p, 0, none⟩)) (.pointer (some ⟨q, 0, none⟩)) (fun k => Value.pointer (some ⟨if k = 0 then p else q, 0, none⟩)) rfl rfl] at this ⊢
    exact this
  · have := heap_alloc_new (w3.alloc (.cells #[.pointer (some ⟨p, 0, none⟩), .pointer (some ⟨q, 0, none⟩)] 32)) (.cells #[.slice none 0 0, .slice none 0 0] 33)
    rw [e1, arr2 (.slice none 0 0) (.slice none 0 0) (fun k => Value.slice none ([] : List UInt8).length 0) rfl rfl] at this
    exact this
  · match k, hk with
    | 0, _ => exact hp.later hF2
    | 1, _ => exact hq.later hF2
  · exact Row.nil _ _
  · simp
  · simp
  · match k, hk with
    | 0, _ => simp [Nat.ne_of_lt hpl, show p ≠ w3.heap.size + 1 by omega]
    | 1, _ => simp [Nat.ne_of_lt hql, show q ≠ w3.heap.size + 1 by omega, show q ≠ p by omega]
  · show (if x = _ then 1 else _) = _
    rw [if_neg (by omega), if_neg (by omega), if_neg (by omega), if_neg (by omega)]
  · exact Nat.le_refl _

end Go.Proofs.YtchdjfhenjbcnaaDoor
