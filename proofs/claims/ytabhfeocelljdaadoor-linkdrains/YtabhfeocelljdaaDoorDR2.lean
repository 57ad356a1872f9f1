import Derived.Test.YtabhfeocelljdaaDoorDR1
import Derived.Test.YtabhfeocelljdaaDoorZGB
import Derived.Deep.Cut
import Derived.Deep.CutBlock
/- LinkDrains: what its state is between two ticks, and within one. -/
namespace Go.Proofs.YtabhfeocelljdaaDoor
open Go.RowKit Go.Maps

theorem i64_and31D (n : Int) : bits .and .i64 n 31 = n % 32 := by
  have h7 : (BitVec.ofInt 64 31).toNat = 2 ^ 5 - 1 := by decide
  have key : (BitVec.ofInt 64 n &&& BitVec.ofInt 64 31).toNat = (n % ((2 ^ 64 : Nat) : Int)).toNat % 2 ^ 5 := by
    rw [BitVec.toNat_and, BitVec.toNat_ofInt, h7, Nat.and_two_pow_sub_one_eq_mod]
  show IntKind.i64.wrap ((BitVec.ofInt 64 n &&& BitVec.ofInt 64 31).toNat : Nat) = n % 32
  rw [key, IntKind.wrap_i64]
  omega
theorem i64_and7D (n : Int) : bits .and .i64 n 7 = n % 8 := by
  have h7 : (BitVec.ofInt 64 7).toNat = 2 ^ 3 - 1 := by decide
  have key : (BitVec.ofInt 64 n &&& BitVec.ofInt 64 7).toNat = (n % ((2 ^ 64 : Nat) : Int)).toNat % 2 ^ 3 := by
    rw [BitVec.toNat_and, BitVec.toNat_ofInt, h7, Nat.and_two_pow_sub_one_eq_mod]
  show IntKind.i64.wrap ((BitVec.ofInt 64 n &&& BitVec.ofInt 64 7).toNat : Nat) = n % 8
  rw [key, IntKind.wrap_i64]
  omega
theorem i64_and3D (n : Int) : bits .and .i64 n 3 = n % 4 := by
  have h7 : (BitVec.ofInt 64 3).toNat = 2 ^ 2 - 1 := by decide
  have key : (BitVec.ofInt 64 n &&& BitVec.ofInt 64 3).toNat = (n % ((2 ^ 64 : Nat) : Int)).toNat % 2 ^ 2 := by
    rw [BitVec.toNat_and, BitVec.toNat_ofInt, h7, Nat.and_two_pow_sub_one_eq_mod]
  show IntKind.i64.wrap ((BitVec.ofInt 64 n &&& BitVec.ofInt 64 3).toNat : Nat) = n % 4
  rw [key, IntKind.wrap_i64]
  omega

/-- What each frame of a tick is. -/
theorem drain_frames {s : Snd} {n g : Nat} (hn : n ≤ 31) (hg : g < n) (hb : s.bat ≤ 8) (hok : FOk (baseOf (numI ((g : Int) + 1) ((byL n).drop g))) s.bat 64 (tickF s (numI ((g : Int) + 1) ((byL n).drop g))).2) :
    ∀ f ∈ (tickF s (numI ((g : Int) + 1) ((byL n).drop g))).2, f.kind = 1 ∧ f.may = true ∧ f.base = (g : Int) + 1 ∧ f.bytes = [] ∧ f.items.length ≤ 8 ∧ ∃ a : Nat, f.seq = a ∧ 1 ≤ a ∧ 1 ≤ f.items.length ∧ (a : Int) + f.items.length ≤ (n : Int) + 1 := by
  intro f hf
  obtain ⟨k, k1, k2, k3⟩ := tick_tells s ((g : Int) + 1) ((byL n).drop g) (by omega) (by rw [List.length_drop, byL_length]; omega) (fun b hb => by rw [byL_small n b (List.mem_of_mem_drop hb)]; omega) f hf
  obtain ⟨a1, a2, a3, a4, a5, a6⟩ := hok.each f hf
  rw [List.length_drop, byL_length] at k2
  have hbase : f.base = (g : Int) + 1 := by
    rw [a2]
    have hne : 0 < ((byL n).drop g).length := by rw [List.length_drop, byL_length]; omega
    generalize (byL n).drop g = d at hne ⊢
    cases d with
    | nil => simp at hne
    | cons b r => rfl
  refine ⟨a1, ?_, hbase, a3, by omega, g + 1 + k, by omega, by omega, by omega, by omega⟩
  unfold Fm.may
  rw [if_pos a1, a3]
  unfold Fm.mayItems
  simp only [List.length_nil, decide_true, Bool.true_and, Bool.and_eq_true, decide_eq_true_eq, Bool.not_eq_true', List.any_eq_false]
  refine ⟨⟨⟨by omega, by omega⟩, ⟨by omega, by omega⟩, by omega⟩, fun b hb => ?_⟩
  have := a6 b hb
  simp only [longB, decide_eq_true_eq]
  omega

theorem tick_sentD (s : Snd) (its : List Itm) : (tickF s its).1.clk = s.clk + 1 ∧ (tickF s its).1.bat = s.bat ∧ (tickF s its).1.win = s.win ∧ (tickF s its).1.evy = s.evy ∧ (s.win ≤ 64 → (tickF s its).1.sent.length ≤ s.sent.length + 64) := by
  unfold tickF
  split
  · refine ⟨rfl, rfl, rfl, rfl, fun hw => ?_⟩
    have key : ∀ (l : List Itm) (st : List (Int × Int) × List Fm), (l.foldl (stepT { s with clk := s.clk + 1 } (baseOf its)) st).1.length ≤ st.1.length + l.length := by
      intro l
      induction l with
      | nil => intro st; simp
      | cons x r ih =>
        intro st
        rw [List.foldl_cons]
        have h1 := ih (stepT { s with clk := s.clk + 1 } (baseOf its) st x)
        have h2 : (stepT { s with clk := s.clk + 1 } (baseOf its) st x).1.length ≤ st.1.length + 1 := by
          unfold stepT
          split
          · omega
          · simp
        simp only [List.length_cons]
        omega
    have h3 := key (its.take s.win.toNat) (s.sent.filter (keepS its (s.clk + 1) s.evy), [])
    have h4 := List.length_filter_le (keepS its (s.clk + 1) s.evy) s.sent
    rw [List.length_take] at h3
    simp only at h3 ⊢
    omega
  · exact ⟨rfl, rfl, rfl, rfl, fun _ => by simp⟩

/-- Between two ticks. -/
structure DW (w wI : World) (M p b q mb K E n : Nat) (s : Snd) (st : Dst) (t a : Nat) (wr : World) : Prop where
  dm : DM w wI M p b q mb s st.R st.ms wr
  di : DI K n st
  un : Uni s.sent
  sm : s.sent.length ≤ 64 * t
  ev : s.evy = E
  ck : s.clk = t
  at_ : a ≤ 128 * t
  po : st.g < n → farD K n E st (dueIn s (st.g + 1)) + t ≤ n * (K * E + K * (K * E))

section
variable {w wI : World} {M p b q mb K E n : Nat} {s : Snd} {st0 st : Dst} {t a : Nat} {w0 wr : World}
/-- What a tick sends: the first item that waits, or others. -/
theorem DW.first (h : DW w wI M p b q mb K E n s st0 t a w0) (hn : n ≤ 31) {g : Nat} (hg : g < n) : 
    (dueIn s ((g : Int) + 1) = 1 → (∃ L, (tickF s (numI ((g : Int) + 1) ((byL n).drop g))).2.map Fm.seq = ((g : Int) + 1) :: L ∧ ∀ y ∈ L, (g : Int) + 1 < y) ∧ dueIn (tickF s (numI ((g : Int) + 1) ((byL n).drop g))).1 ((g : Int) + 1) = s.evy) ∧
    (1 < dueIn s ((g : Int) + 1) → (∀ y ∈ (tickF s (numI ((g : Int) + 1) ((byL n).drop g))).2.map Fm.seq, (g : Int) + 1 < y) ∧ dueIn (tickF s (numI ((g : Int) + 1) ((byL n).drop g))).1 ((g : Int) + 1) = dueIn s ((g : Int) + 1) - 1) :=
  tick_first h.un h.dm.sn.win.1 h.dm.sn.evy.1 (by rw [List.length_drop, byL_length]; omega) (by omega) (by rw [List.length_drop, byL_length]; omega) (fun b hb => by rw [byL_small n b (List.mem_of_mem_drop hb)]; omega)
/-- Behind a tick. -/
theorem DW.ends (h : DW w wI M p b q mb K E n s st0 t a w0) (hn : n ≤ 31) (hK : 1 ≤ K) (hE : 1 ≤ E) {g : Nat} (hg0 : st0.g = g) (hg : g < n) (hd : DT K n E g st0 (dueIn s ((g : Int) + 1)) (tickF s (numI ((g : Int) + 1) ((byL n).drop g))).2 (tickF s (numI ((g : Int) + 1) ((byL n).drop g))).2.length st)
    (hm : DM w wI M p b q mb (tickF s (numI ((g : Int) + 1) ((byL n).drop g))).1 st.R st.ms wr) {a' : Nat} (ha : a' ≤ 128 * t + 128) : DW w wI M p b q mb K E n (tickF s (numI ((g : Int) + 1) ((byL n).drop g))).1 st (t + 1) a' wr := by
  obtain ⟨f1, f2⟩ := h.first hn hg
  obtain ⟨c1, c2, c3, c4, c5⟩ := tick_sentD s (numI ((g : Int) + 1) ((byL n).drop g))
  have hks : ∀ e ∈ s.sent, e.2 ≤ s.clk := fun e he => (h.dm.sn.tks e he).2
  have hev := h.ev
  have hd0 := dueIn_in hks h.dm.sn.evy.1 ((g : Int) + 1)
  have hd1 := dueIn_in (tickF_tks hks (numI ((g : Int) + 1) ((byL n).drop g))) (by rw [c4]; exact h.dm.sn.evy.1) (st.g + 1)
  rw [c4] at hd1
  have hck := h.ck
  have hsm := h.sm
  have := c5 h.dm.sn.win.2
  refine ⟨hm, hd.di, tickF_uni h.un _, by omega, by rw [c4, hev], by rw [c1, hck]; omega, by omega, fun hgn => ?_⟩
  have hpo := h.po (by omega)
  rw [hg0] at hpo
  have := hd.ends (d1 := dueIn (tickF s (numI ((g : Int) + 1) ((byL n).drop g))).1 (st.g + 1)) h.di hg0 (by omega) (by omega) (by omega) (by omega) (fun e => by
      obtain ⟨L, e1, _⟩ := (f1 e).1
      have := congrArg List.length e1
      rw [List.length_map] at this
      simp at this
      omega) (fun e1 e2 => by rw [e1, (f1 e2).2, hev]) (fun e1 e2 => by rw [e1, (f2 e2).2])
  omega
end

end Go.Proofs.YtabhfeocelljdaaDoor

