import Derived.Test.YtjkghgcdkfkekaaGreatDoorQXE
/- Contracts: slices.Concat of rows, a queue's Peek. -/
namespace Go.Proofs.YtjkghgcdkfkekaaGreatDoor
open Go.RowKit

/-- All bytes of some rows. -/
def flatB (l : List Bs) : Bs := l.flatMap id
theorem flatB_snoc (l : List Bs) (i : Nat) (h : i < l.length) : flatB (l.take (i + 1)) = flatB (l.take i) ++ l[i] := by
  rw [List.take_succ_eq_append_getElem h, flatB, List.flatMap_append]; simp [flatB]
theorem flatB_le (l : List Bs) (i : Nat) : (flatB (l.take i)).length ≤ (flatB l).length := by
  conv => rhs; rw [← List.take_append_drop i l]
  rw [flatB, flatB, List.flatMap_append, List.length_append]; omega

set_option maxRecDepth 20000 in
theorem grow0_any (w : World) : Calls Tryz.prog 88 #[.slice none 0 0, .int .i64 0] w fun e w' => e = .returned (.slice none 0 0) ∧ w' = w := by
  go_enter Tryz.func88, Tryz.ntmps88
  go_wp2
  go_ret
  exact ⟨rfl, rfl⟩

theorem grown_any (w : World) (n : Nat) (hn : n ≤ 140737488355328) :
    Calls Tryz.prog 88 #[.slice none 0 0, .int .i64 n] w fun e w' => ∃ ao cap g, e = .returned (.slice ao 0 cap) ∧ Row w' (.slice ao 0 cap) g [] ∧ Fr (fun _ => False) w w' ∧ w.heap.size ≤ g := by
  rcases Nat.eq_zero_or_pos n with rfl | h0
  · refine (grow0_any w).mono ?_
    rintro e w' ⟨rfl, rfl⟩
    exact ⟨none, 0, w'.heap.size, rfl, Row.nil _ _, Fr.refl _ _, Nat.le_refl _⟩
  · refine (grow_any w n h0 hn).mono ?_
    rintro e w' ⟨v, rfl, g, h1, h2, h3⟩
    obtain ⟨ao, cap, rfl, _⟩ := h1.shape
    exact ⟨ao, cap, g, rfl, h1, h2, h3⟩

set_option maxHeartbeats 1000000 in
set_option maxRecDepth 20000 in
theorem concatR_any (w : World) (P : Nat → Prop) (ro : Option Addr) (rc : Nat) (l : List Bs) (hR : RecsP P w ro rc l) (hn : l.length ≤ 4096) (hfit : (flatB l).length ≤ 1099511627776) :
    Calls Tryz.prog 62 #[.slice ro l.length rc] w fun e w' => ∃ ao cap g, e = .returned (.slice ao (flatB l).length cap) ∧ Row w' (.slice ao (flatB l).length cap) g (flatB l) ∧ Fr (fun _ => False) w w' ∧ w.heap.size ≤ g := by
  obtain ⟨i0, hi, hz0, hz1, hz2⟩ := info_parts Tryz.info5
  have HI := hide (And.intro hi (And.intro hz0 (And.intro hz1 hz2)))
  have HR := hide hR
  have HF := hide hfit
  obtain ⟨n, hnl⟩ : ∃ n, n = l.length := ⟨_, rfl⟩
  have HN := hide hnl
  have hnI : (n : Int) ≤ 4096 := by omega
  rw [← hnl]
  clear hR hfit hn hnl hi hz0 hz1 hz2
  go_enter Tryz.func62, Tryz.ntmps62
  go_wp2
  go_loopw [3, 11] (fun sv iv wr => (∃ i : Nat, i ≤ n ∧ iv = .int .i64 i ∧ sv = .int .i64 ((flatB (l.take i)).length : Nat)) ∧ w = wr) (fun _ iv _ => n - (intOf iv).toNat)
  case atStart => exact ⟨⟨0, Nat.zero_le _, rfl, rfl⟩, rfl⟩
  case round =>
    obtain ⟨⟨i, hin, rfl, rfl⟩, rfl⟩ := hrel
    by_cases hlt : i < n
    · have hnl := unhide HN
      obtain ⟨b, off, rfl, hj0, hc⟩ := (unhide HR).cells (by omega)
      obtain ⟨xo, xc, cx, hj1, hj2⟩ := hc i (by omega)
      have h1 := flatB_le l (i + 1)
      have h2 : (flatB (l.take (i + 1))).length = (flatB (l.take i)).length + (l[i]'(by omega)).length := by rw [flatB_snoc l i (by omega), List.length_append]
      obtain ⟨X, hX⟩ : ∃ X, X = l[i]'(by omega) := ⟨_, rfl⟩
      rw [← hX] at cx h2
      have H2 := hide h2
      have hfit := unhide HF
      rw [h2] at h1
      clear h2 hc hj0 hj1 hj2 hX hnl
      generalize (flatB (l.take i)).length = A at *
      generalize X.length = B at *
      have h3 : (A : Int) + (B : Int) ≤ 1099511627776 := by omega
      have hiI : (i : Int) < (n : Int) := by omega
      clear h1 hfit
      go_wp2
      exact ⟨⟨⟨i + 1, by omega, by go_num, by rw [unhide H2]; go_num⟩, trivial⟩, by simp [intOf]; omega⟩
    · obtain rfl : i = n := by omega
      have hnl := unhide HN
      have ht : l.take i = l := by rw [hnl, List.take_length]
      rw [ht]
      have GR := hide (grown_any w (flatB l).length (by have := unhide HF; omega))
      clear ht hnl
      generalize hL : (flatB l).length = L at *
      have HL := hide hL
      clear hL
      go_wp2_with fail
      refine (unhide GR).mono ?_
      rintro e w1 ⟨ao, cap, g, rfl, hrow, hF, hg⟩
      have HR1 := hide (And.intro hrow (And.intro hF hg))
      clear hrow hF hg GR
      go_wp2
      go_loopw [6, 27] (fun nv iv wr => ∃ k : Nat, k ≤ i ∧ iv = .int .i64 k ∧ ∃ ao cap g, nv = .slice ao (flatB (l.take k)).length cap ∧ Hid (Row wr (.slice ao (flatB (l.take k)).length cap) g (flatB (l.take k)) ∧ Fr (fun _ => False) w wr ∧ w.heap.size ≤ g)) (fun _ iv _ => i - (intOf iv).toNat)
      case atStart => exact ⟨0, Nat.zero_le _, rfl, ao, cap, g, rfl, unhide HR1⟩
      case round =>
        obtain ⟨k, hk, rfl, ao, cap, g, rfl, HS⟩ := hrel
        by_cases hlt : k < i
        · have hnl := unhide HN
          obtain ⟨hS1, hS2, hS3⟩ := unhide HS
          obtain ⟨b, off, rfl, hj0, hc⟩ := ((unhide HR).frame hS2 (fun _ _ t => t)).cells (by omega)
          obtain ⟨xo, xc, cx, hxb, hj2⟩ := hc k (by omega)
          have hsn := flatB_snoc l k (by omega)
          obtain ⟨X, hX⟩ : ∃ X, X = l[k]'(by omega) := ⟨_, rfl⟩
          rw [← hX] at cx hxb hsn
          have hsrc := src_slice Tryz.underlying28 wr xo xc X hxb.2.1
          have hfit2 : (flatB (l.take k)).length + X.length ≤ 140737488355328 := by
            rw [← List.length_append, ← hsn]; have := flatB_le l (k + 1); have := unhide HF; have := unhide HL; omega
          have HC := hide (And.intro hsrc (And.intro hfit2 hsn))
          have hkI : (k : Int) < (i : Int) := by omega
          clear hj0 hj2 hS1 hS2 hS3 hc hxb hX hsrc hfit2 hsn hnl
          go_wp2_with (at_builtin; refine wpList_append_row _ rfl (.tmp 31) (.tmp 32) 28 28 rfl 5 i0 Tryz.underlying28 (unhide HI).1 (unhide HI).2.1 (unhide HI).2.2.1 (unhide HI).2.2.2 (ao := ao) (g := g) (bs := flatB (l.take k)) (cap := cap) rfl (unhide HS).1 _ X rfl (unhide HC).1 (unhide HC).2.1 ?next)
          case next =>
            intro ao' cap' w' g' hrow hfr hg
            have HQ := hide (And.intro hrow (And.intro hfr hg))
            clear hrow hfr hg
            go_wp2
            obtain ⟨k1, k2, k3⟩ := unhide HQ
            obtain ⟨l1, l2, l3⟩ := unhide HS
            have hsn := (unhide HC).2.2
            have := l2.size
            refine ⟨⟨k + 1, by omega, by go_num, ao', cap', g', by rw [hsn, List.length_append], by rw [hsn, List.length_append]; exact k1, l2.trans k2 (fun i hi t => by omega), by omega⟩, by simp [intOf]; omega⟩
        · obtain rfl : k = i := by omega
          go_wp2
          go_ret
          have h := unhide HS
          have hnl := unhide HN
          have ht : l.take k = l := by rw [hnl, List.take_length]
          rw [ht, unhide HL] at h
          rw [ht, unhide HL]
          exact ⟨ao, cap, g, rfl, h⟩

end Go.Proofs.YtjkghgcdkfkekaaGreatDoor

/- Contract: a queue's Peek. -/
namespace Go.Proofs.YtjkghgcdkfkekaaGreatDoor
open Go.RowKit

/-- The cells of items: numbers behind a, and rows of bytes in blocks of which Q holds. -/
def PkEls (Q : Nat → Prop) (w : World) (vs : List Value) (a : Nat) (l : List Bs) : Prop := vs.length = l.length * 2 ∧ ∀ i (h : i < l.length), vs[i * 2]? = some (.int .i64 ((a + 1 + i : Nat) : Int)) ∧ ∃ bo bc, vs[i * 2 + 1]? = some (.slice bo l[i].length bc) ∧ BAt w bo bc l[i] ∧ ∀ k off, 0 < l[i].length → bo = some ⟨k, off, none⟩ → Q k

theorem PkEls.nil (Q : Nat → Prop) (w : World) (a : Nat) : PkEls Q w [] a [] := ⟨rfl, fun i h => absurd h (by simp)⟩

theorem PkEls.frame {Q S : Nat → Prop} {w w' : World} {vs : List Value} {a : Nat} {l : List Bs} (h : PkEls Q w vs a l) (hF : Fr S w w') (hS : ∀ k, Q k → ¬ S k) : PkEls Q w' vs a l := by
  refine ⟨h.1, fun i hi => ?_⟩
  obtain ⟨h1, bo, bc, h2, h3, h4⟩ := h.2 i hi
  exact ⟨h1, bo, bc, h2, h3.stay (fun k off e h0 hlt => hF.block k hlt (hS k (h4 k off h0 e))), h4⟩

theorem PkEls.snoc {Q : Nat → Prop} {w : World} {vs : List Value} {a : Nat} {l : List Bs} (h : PkEls Q w vs a l) (b : Bs) (bo : Option Addr) (bc : Nat) (hb : BAt w bo bc b) (hk : ∀ k off, 0 < b.length → bo = some ⟨k, off, none⟩ → Q k) :
    PkEls Q w (vs ++ [.int .i64 ((a + 1 + l.length : Nat) : Int), .slice bo b.length bc]) a (l ++ [b]) := by
  have hl := h.1
  refine ⟨by simp [hl]; omega, fun i hi => ?_⟩
  by_cases h1 : i < l.length
  · obtain ⟨k1, bo', bc', k2, k3, k4⟩ := h.2 i h1
    rw [List.getElem_append_left h1]
    exact ⟨by rw [List.getElem?_append_left (by omega)]; exact k1, bo', bc', by rw [List.getElem?_append_left (by omega)]; exact k2, k3, k4⟩
  · have hil : i = l.length := by simp at hi; omega
    have e : (l ++ [b])[i] = b := by rw [List.getElem_append_right (by omega)]; simp
    rw [e]
    subst hil
    refine ⟨?_, bo, bc, ?_, hb, hk⟩
    · rw [List.getElem?_append_right (by omega), hl]; simp
    · rw [List.getElem?_append_right (by omega), hl, show l.length * 2 + 1 - l.length * 2 = 1 by omega]; rfl

theorem PkEls.mono {Q Q' : Nat → Prop} {w : World} {vs : List Value} {a : Nat} {l : List Bs} (h : PkEls Q w vs a l) (hQ : ∀ k, Q k → Q' k) : PkEls Q' w vs a l := by
  refine ⟨h.1, fun i hi => ?_⟩
  obtain ⟨h1, bo, bc, h2, h3, h4⟩ := h.2 i hi
  exact ⟨h1, bo, bc, h2, h3, fun k off h0 e => hQ k (h4 k off h0 e)⟩

/-- A piece of a row of bytes, cut by three indexes. -/
theorem cut3 {w : World} {ao : Option Addr} {n cap g : Nat} {bs : Bs} (h : Row w (.slice ao n cap) g bs) (hs : bs.length ≤ 140737488355328) (f t : Nat) (hft : f ≤ t) (ht : t ≤ bs.length) :
    ∃ bo, sliced ao f t t 1 = .slice bo (t - f) (t - f) ∧ BAt w bo (t - f) ((bs.drop f).take (t - f)) ∧ (∀ k off, 0 < t - f → bo = some ⟨k, off, none⟩ → k = g) ∧ (0 < t - f → bo = some ⟨g, f, none⟩) ∧ ∀ j, j < t - f → w.frozen? ⟨g, f + j, none⟩ = false := by
  obtain ⟨ao', cap', e, h1, h2, h3, h4⟩ := h.shape
  injection e with e1 e2 e3
  subst e1 e3
  refine ⟨_, rfl, ?_, fun k off h0 e => ?_, fun h0 => ?_, fun j hj => (h4 _ (by omega)).2⟩
  · have hl : ((bs.drop f).take (t - f)).length = t - f := by simp; omega
    refine ⟨fun e => ?_, fun h0 => ?_, by omega⟩
    · split at e
      · exact ⟨by omega, by omega⟩
      · rw [h3 (by omega)] at e; simp at e
    · rw [if_neg (by omega), h3 (by omega)]
      refine ⟨g, f, by simp [Addr.add_lit], fun j hj => ?_⟩
      rw [h.cells (f + j) (by omega)]
      simp
  · rw [if_neg (by omega), h3 (by omega)] at e
    simp [Addr.add_lit] at e
    exact e.1.symm
  · rw [if_neg (by omega), h3 (by omega)]
    simp [Addr.add_lit]

theorem flat_piece (l : List Bs) (i : Nat) (h : i < l.length) : ((flatB l).drop (flatB (l.take i)).length).take l[i].length = l[i] := by
  have e : flatB l = flatB (l.take i) ++ (l[i] ++ flatB (l.drop (i + 1))) := by
    have h2 : flatB (l.take i ++ l[i] :: l.drop (i + 1)) = flatB (l.take i) ++ (l[i] ++ flatB (l.drop (i + 1))) := by simp only [flatB, List.flatMap_append, List.flatMap_cons, id]
    rw [List.getElem_cons_drop, List.take_append_drop] at h2
    exact h2
  rw [e, List.drop_left' rfl, List.take_left' rfl]

theorem flat_small (l : List Bs) (h : ∀ b ∈ l, b.length ≤ 256) : (flatB l).length ≤ 256 * l.length := by
  induction l with
  | nil => simp [flatB]
  | cons b r ih =>
    have h1 := h b (by simp)
    have h2 := ih (fun x hx => h x (by simp [hx]))
    simp [flatB] at *
    omega

theorem infoIt : (Tryz.prog.info? 107).map (fun i => (i.zero, i.size, i.bytes)) = some (some (.agg #[.int .i64 0, .slice none 0 0]), 2, 32) := by kernel_rfl

/-- Items of one block, one behind the other, none with room to spare. -/
def PkOne (w : World) (z : Nat) (vs : List Value) (ga : Nat) (l : List Bs) : Prop := ∀ i (h : i < l.length), ∃ bo, vs[i * 2 + 1]? = some (.slice bo l[i].length l[i].length) ∧ (0 < l[i].length → ga < z ∧ bo = some ⟨ga, (flatB (l.take i)).length, none⟩ ∧ ∀ j, j < l[i].length → w.frozen? ⟨ga, (flatB (l.take i)).length + j, none⟩ = false)

theorem PkOne.nil (w : World) (z ga : Nat) : PkOne w z [] ga [] := fun i h => absurd h (by simp)

theorem PkOne.frame {S : Nat → Prop} {w w' : World} {z : Nat} {vs : List Value} {ga : Nat} {l : List Bs} (h : PkOne w z vs ga l) (hz : z ≤ w.heap.size) (hF : Fr S w w') (hS : ga < z → ¬ S ga) : PkOne w' z vs ga l := by
  intro i hi
  obtain ⟨bo, h1, h2⟩ := h i hi
  refine ⟨bo, h1, fun h0 => ?_⟩
  obtain ⟨k1, k2, k3⟩ := h2 h0
  exact ⟨k1, k2, fun j hj => (World.frozen?_of_block (a := ⟨ga, _, none⟩) (hF.block ga (by omega) (hS k1))).trans (k3 j hj)⟩

theorem PkOne.mono {w : World} {z z' : Nat} {vs : List Value} {ga : Nat} {l : List Bs} (h : PkOne w z vs ga l) (hz : z ≤ z') : PkOne w z' vs ga l := by
  intro i hi
  obtain ⟨bo, h1, h2⟩ := h i hi
  exact ⟨bo, h1, fun h0 => ⟨by have := (h2 h0).1; omega, (h2 h0).2⟩⟩

theorem PkOne.away {w : World} {z : Nat} {vs : List Value} {ga : Nat} {l : List Bs} (h : PkOne w z vs ga l) (hz : ¬ ga < z) (z' ga' : Nat) : PkOne w z' vs ga' l := by
  intro i hi
  obtain ⟨bo, h1, h2⟩ := h i hi
  exact ⟨bo, h1, fun h0 => absurd (h2 h0).1 hz⟩

theorem PkOne.snoc {w : World} {z : Nat} {vs : List Value} {ga : Nat} {l : List Bs} (h : PkOne w z vs ga l) (hv : vs.length = l.length * 2) (b : Bs) (bo : Option Addr) (v : Value) (hb : 0 < b.length → ga < z ∧ bo = some ⟨ga, (flatB l).length, none⟩ ∧ ∀ j, j < b.length → w.frozen? ⟨ga, (flatB l).length + j, none⟩ = false) : PkOne w z (vs ++ [v, .slice bo b.length b.length]) ga (l ++ [b]) := by
  intro i hi
  by_cases h1 : i < l.length
  · have e1 : (l ++ [b])[i] = l[i] := List.getElem_append_left h1
    have e2 : (l ++ [b]).take i = l.take i := List.take_append_of_le_length (by omega)
    rw [e1, e2, List.getElem?_append_left (by omega)]
    exact h i h1
  · have e : i = l.length := by simp at hi; omega
    subst e
    have e1 : (l ++ [b])[l.length] = b := by simp
    have e2 : (l ++ [b]).take l.length = l := by simp
    rw [e1, e2]
    refine ⟨bo, ?_, hb⟩
    rw [List.getElem?_append_right (by omega), show l.length * 2 + 1 - vs.length = 1 by omega]
    rfl

/-- What Peek answers: items of one's own. -/
def PeekPost (w : World) (a : Nat) (l : List Bs) (e : Ending) (w' : World) : Prop := ∃ lo lc gl ga vs, e = .returned (.slice lo l.length lc) ∧ KRow w' lo lc gl 2 vs ∧ PkEls (fun k => k = ga) w' vs a l ∧ Fr (fun _ => False) w w' ∧ w.heap.size ≤ gl ∧ w.heap.size ≤ ga ∧ gl ≠ ga ∧ PkOne w' w'.heap.size vs ga l

section
variable {w : World} {R : Nat → Nat} {O : Nat → Prop} {qb l lim : Nat} {dead : Bool} {q : Qr}

set_option maxHeartbeats 1000000 in
set_option maxRecDepth 20000 in
theorem QM.peek (Q : QM w R O qb l lim dead q) (hok : q.Ok 4096) (most : Int) :
    Calls Tryz.prog 30 #[.pointer (some ⟨qb, 0, none⟩), .int .i64 most] w (PeekPost w q.acked (q.items.take most.toNat)) := by
  obtain ⟨io, cap, g, off, hb, hI⟩ := Q.box
  have hlen := hok.many
  have hlast := hok.last
  have hle : q.last = q.acked + q.items.length := rfl
  have hcap := hI.its.le
  obtain ⟨n, hn⟩ : ∃ n, n = q.items.length := ⟨_, rfl⟩
  have hmx := max0 most
  generalize most.toNat = M at *
  obtain ⟨k, hk⟩ : ∃ k, k = min M n := ⟨_, rfl⟩
  obtain ⟨L, hL⟩ : ∃ L, L = q.items.take M := ⟨_, rfl⟩
  have hLl : L.length = k := by rw [hL, List.length_take, hk, hn]
  have hLI : Its (fun k => (O k ∧ k ≠ qb) ∧ (0 < cap → k ≠ g)) w io cap g off L := by rw [hL]; exact hI.its.first _
  have hLs : ∀ b ∈ L, b.length ≤ 256 := fun b hb => hok.it b (by rw [hL] at hb; exact List.mem_of_mem_take hb)
  have had : 0 < cap → io = some ⟨g, off, none⟩ := by obtain ⟨vs, q1, q2, q3⟩ := hI.its.ex; exact q1.ad
  have hmin : ∀ (ts : Array TypeId) (t : TypeId) (u : World), (Builtin.min_ ts t #[.int .i64 (M : Int), .int .i64 (n : Int)]).run Tryz.prog u = .ok (.int .i64 (k : Int)) u := fun ts t u => by
    rw [run_min_int2]
    congr 2
    split <;> omega
  have hkn : k ≤ n := by omega
  have hsl : ∀ u : World, (Instr.slice 23 (.slice io n cap) none (some (.int .i64 (k : Int))) none).run Tryz.prog u = .ok (.slice io k cap) u := fun u => by
    rw [run_slice_h (P := Tryz.prog) (w := u) 23 io n cap Tryz.underlying23 .i64 (k : Int) (by omega) (by omega)]
    have e : sliced io 0 (k : Int).toNat cap 1 = .slice io k cap := by
      simp only [sliced, Int.toNat_natCast, Nat.zero_mul, Nat.sub_zero]
      congr 1
      split
      · rfl
      · rw [had (by omega)]; simp [Addr.add_lit]
    rw [← e]; rfl
  have c1 : w.cell? ⟨qb, 1, none⟩ = some (.slice io n cap) := by rw [hn]; exact hb.cell 1
  have hfl := flat_small L hLs
  have CC : Hid (∀ u, Fr (fun _ => False) w u → Calls Tryz.prog 62 #[.slice io k cap] u fun e w' => ∃ ao ac ga, e = .returned (.slice ao (flatB L).length ac) ∧ Hid (Row w' (.slice ao (flatB L).length ac) ga (flatB L) ∧ Fr (fun _ => False) w w' ∧ w.heap.size ≤ ga ∧ (flatB L).length ≤ ac ∧ ac ≤ maxLen)) := hide (fun u hu => by
    have h := concatR_any u (fun _ => True) io cap L ((hLI.keep hu).recs (fun _ _ => trivial) (fun _ => trivial) (by omega)) (by omega) (by omega)
    rw [hLl] at h
    refine h.mono ?_
    rintro e w' ⟨ao, ac, ga, rfl, h1, h2, h3⟩
    obtain ⟨ao', ac', e, q1, q2, q3, q4⟩ := h1.shape
    injection e with e1 e2 e3
    subst e1 e3
    exact ⟨ao, ac, ga, rfl, hide ⟨h1, hu.trans h2 (fun _ _ t => t), Nat.le_trans hu.size h3, q1, q2⟩⟩)
  have HQ := hide (And.intro hb (And.intro hLI (And.intro hLl (And.intro hfl (And.intro hLs (And.intro hlast hle))))))
  rw [← hL]
  have hkI : (k : Int) ≤ 4096 := by omega
  have hnI : (n : Int) ≤ 4096 := by omega
  have hkc : k ≤ cap := by omega
  have HA : Hid ((q.acked : Int) + (n : Int) ≤ 4294967295) := hide (by omega)
  clear Q hb hI hok hlen hlast hle hcap hLI hLs had hfl hL hn hLl hk
  go_enter Tryz.func30, Tryz.ntmps30
  go_wp2
  go_region_held3 (fun w' => w'.cell? ⟨qb, 1, none⟩ = some (.slice io n cap)) (first | exact c1) (fail)
  go_wp2_with fail
  refine (unhide CC _ ((Fr.refl _ _).drew)).mono ?_
  rintro e w1 ⟨ao, ac, ga, rfl, HR⟩
  clear CC hmx hmin hsl c1
  obtain ⟨i0, hi, hzz⟩ := Option.map_eq_some_iff.1 infoIt
  simp only [Prod.mk.injEq] at hzz
  obtain ⟨hz0, hz1, hz2⟩ := hzz
  have HI := hide (And.intro hi (And.intro hz0 (And.intro hz1 hz2)))
  clear hi hz0 hz1 hz2
  have hmk : (Instr.makeSlice 76 (.int .i64 0) (.int .i64 (k : Int))).run Tryz.prog w1 = .ok (.slice (some ⟨w1.heap.size, 0, none⟩) 0 k) (w1.alloc (.cells (madeCells #[.int .i64 0, .slice none 0 0] (k * 2)) 107)) := by
    have := run_make (P := Tryz.prog) w1 76 107 i0 (.agg #[.int .i64 0, .slice none 0 0]) Tryz.underlying76 (unhide HI).1 (unhide HI).2.1 .i64 .i64 0 (k : Int) (by omega) (by omega) (by rw [(unhide HI).2.2.2]; omega) (by omega)
    rw [(unhide HI).2.2.1, Int.toNat_natCast] at this
    exact this
  have H2 : Hid (KRow (w1.alloc (.cells (madeCells #[.int .i64 0, .slice none 0 0] (k * 2)) 107)) (some ⟨w1.heap.size, 0, none⟩) k w1.heap.size 2 [] ∧ Fr (fun _ => False) w1 (w1.alloc (.cells (madeCells #[.int .i64 0, .slice none 0 0] (k * 2)) 107))) := by
    have hbx := Bx.new w1 (madeCells #[.int .i64 0, .slice none 0 0] (k * 2)) 107
    refine hide ⟨⟨Nat.zero_le _, by simp only [maxLen]; omega, fun _ => rfl, fun j hj => ⟨?_, hbx.frozen j⟩, fun j hj => absurd hj (by simp), fun u hu => by cases hu⟩, (Fr.refl _ _).alloc _⟩
    rw [hbx.cell j, Array.getElem?_eq_getElem (by rw [size_madeCells]; exact hj)]; rfl
  go_wp2
  clear hmk
  generalize w1.alloc (.cells (madeCells #[.int .i64 0, .slice none 0 0] (k * 2)) 107) = w2 at *
  go_loopw [7, 8, 34] (fun lv fv iv wr => ∃ i : Nat, i ≤ k ∧ iv = .int .i64 i ∧ fv = .int .i64 ((flatB (L.take i)).length : Nat) ∧ ∃ lo lc gl vs, lv = .slice lo i lc ∧ Hid (KRow wr lo lc gl 2 vs ∧ PkEls (fun x => x = ga ∧ ga < w1.heap.size) wr vs q.acked (L.take i) ∧ Fr (fun _ => False) w1 wr ∧ w1.heap.size ≤ gl ∧ PkOne wr w1.heap.size vs ga (L.take i))) (fun _ _ iv _ => k - (intOf iv).toNat)
  case atStart => exact ⟨0, Nat.zero_le _, rfl, rfl, _, _, _, [], rfl, hide ⟨(unhide H2).1, PkEls.nil _ _ _, (unhide H2).2, Nat.le_refl _, PkOne.nil _ _ _⟩⟩
  case round =>
    obtain ⟨i, hi, rfl, rfl, lo, lc, gl, vs, rfl, HS⟩ := hrel
    clear H2
    by_cases hlt : i < k
    · obtain ⟨hb, hLI, hLl, hfl, hLs, hlast, hle⟩ := unhide HQ
      obtain ⟨hrow, hF1, hga, hac, hacm⟩ := unhide HR
      obtain ⟨hK, hP, hFr, hgl, hO⟩ := unhide HS
      obtain ⟨us, q1, q2, q3⟩ := ((hLI.keep hF1).keep hFr).ex
      have eio := q1.ad (by omega)
      obtain ⟨xo, xc, ex, hxb, hxe⟩ := q3 i (by omega) (by omega)
      have cx : wr.cell? ⟨g, off + i, none⟩ = some (.slice xo (L[i]'(by omega)).length xc) := by rw [q1.cells i (by omega), ex]
      have hsn := flatB_snoc L i (by omega)
      have hfle := flatB_le L (i + 1)
      have hpc := flat_piece L i (by omega)
      have htk : L.take (i + 1) = L.take i ++ [L[i]'(by omega)] := List.take_succ_eq_append_getElem (by omega)
      have hti : (L.take i).length = i := by simp; omega
      subst eio
      obtain ⟨X, hX⟩ : ∃ X, X = L[i]'(by omega) := ⟨_, rfl⟩
      rw [← hX] at cx hsn hpc htk
      obtain ⟨F, hF⟩ : ∃ F, F = (flatB (L.take i)).length := ⟨_, rfl⟩
      have hsl2 : (flatB (L.take (i + 1))).length = F + X.length := by rw [hsn, List.length_append, hF]
      rw [hsl2] at hfle
      obtain ⟨bo, hbo, hbat, hbk, hbf, hbz⟩ := cut3 (hrow.frame hFr (fun t => t)) (by omega) F (F + X.length) (by omega) (by omega)
      rw [show F + X.length - F = X.length by omega] at hbo hbat hbk hbf hbz
      rw [hF, hpc] at hbat
      have hsl3 : ∀ u : World, (Instr.slice 28 (.slice ao (flatB L).length ac) (some (.int .i64 (F : Int))) (some (.int .i64 ((F : Int) + (X.length : Int)))) (some (.int .i64 ((F : Int) + (X.length : Int))))).run Tryz.prog u = .ok (.slice bo X.length X.length) u := fun u => by
        rw [run_slice_lhm (P := Tryz.prog) (w := u) 28 ao (flatB L).length ac Tryz.underlying28 .i64 .i64 .i64 (F : Int) ((F : Int) + (X.length : Int)) ((F : Int) + (X.length : Int)) (by omega) (by omega) (by omega) (by omega), ← hbo]
        have e1 : ((F : Int) + (X.length : Int)).toNat = F + X.length := by omega
        rw [e1]; rfl
      obtain ⟨lo', lc', w', gl', hrun, r1, r2⟩ : ∃ lo' lc' w' gl', (Builtin.append_ #[76, 76] 76 #[.slice lo i lc, .slice (some ⟨wr.heap.size, 0, none⟩) 1 1]).run Tryz.prog (wr.alloc (.cells #[.int .i64 ((q.acked : Int) + 1 + (i : Int)), .slice bo X.length X.length] 107)).drew = .ok (.slice lo' (i + 1) lc') w' ∧ KRow w' lo' lc' gl' 2 (vs ++ [.int .i64 ((q.acked : Int) + 1 + (i : Int)), .slice bo X.length X.length]) ∧ Grew (wr.alloc (.cells #[.int .i64 ((q.acked : Int) + 1 + (i : Int)), .slice bo X.length X.length] 107)).drew gl lc w' gl' lc' := by
        have hFn : Fr (fun _ => False) wr (wr.alloc (.cells #[.int .i64 ((q.acked : Int) + 1 + (i : Int)), .slice bo X.length X.length] 107)).drew := ((Fr.refl _ _).alloc _).drew
        have hsrc : Src Tryz.prog 2 76 (.slice (some ⟨wr.heap.size, 0, none⟩) 1 1) 1 [.int .i64 ((q.acked : Int) + 1 + (i : Int)), .slice bo X.length X.length] (wr.alloc (.cells #[.int .i64 ((q.acked : Int) + 1 + (i : Int)), .slice bo X.length X.length] 107)).drew :=
          src_one (P := Tryz.prog) wr _ 76 107 2 Tryz.underlying76 rfl (fun u hu => by simp at hu; rcases hu with rfl | rfl <;> rfl) (fun j => ((Bx.new wr #[.int .i64 ((q.acked : Int) + 1 + (i : Int)), .slice bo X.length X.length] 107).drew.cell j).trans (by simp))
        exact append_krow (P := Tryz.prog) 76 76 76 107 i0 (.agg #[.int .i64 0, .slice none 0 0]) 2 (by omega) Tryz.underlying76 (unhide HI).1 (unhide HI).2.1 rfl (unhide HI).2.2.1 (hK.keep (by omega) hFn) (by rw [hP.1, hti]) _ _ 1 hsrc (by rw [(unhide HI).2.2.2]; omega) (by omega)
      have HRUN := hide hrun
      have hc0 : ∀ u, Fr (fun _ => False) w u → u.cell? ⟨qb, 0, none⟩ = some (.int .i64 (q.acked : Int)) := fun u hu => (hb.keep hu).cell 0
      have HS0 : Hid (∀ u, Fr (fun x => w1.heap.size ≤ x) w1 u → u.cell? ⟨qb, 0, none⟩ = some (.int .i64 (q.acked : Int))) := hide (fun u hu => ((hb.keep hF1).frame hu (by have := (hb.keep hF1).lt; omega)).cell 0)
      have HG : Hid (Fr (fun x => w1.heap.size ≤ x) w1 w') := by
        refine hide ?_
        have f0 : Fr (fun x => w1.heap.size ≤ x) w1 (wr.alloc (.cells #[.int .i64 ((q.acked : Int) + 1 + (i : Int)), .slice bo X.length X.length] 107)).drew := ((hFr.alloc _).drew).mono (fun _ _ t => t.elim)
        rcases r2 with ⟨_, _, hf⟩ | ⟨_, _, hf⟩
        · exact f0.trans hf (fun x _ t => by rw [t.1]; exact hgl)
        · exact f0.trans hf (fun x _ t => t.elim)
      have HFR := hide hFr
      have hwr1 : IntKind.i64.wrap ((q.acked : Int) + 1) = (q.acked : Int) + 1 := by rw [IntKind.wrap_i64]; omega
      have hwr2 : IntKind.i64.wrap ((q.acked : Int) + 1 + (i : Int)) = (q.acked : Int) + 1 + (i : Int) := by have := unhide HA; rw [IntKind.wrap_i64]; omega
      have hFX : (F : Int) + (X.length : Int) ≤ 1099511627776 := by omega
      have HX := hide (And.intro r1 (And.intro r2 (And.intro hsl2 (And.intro htk (And.intro hti (And.intro hbat (And.intro hbk (And.intro hP (And.intro hgl (And.intro hF (And.intro hrow (And.intro hlt (And.intro hO (And.intro hbf hbz))))))))))))))
      have hiI : (i : Int) < (k : Int) := by omega
      rw [← hF]
      clear hb hLI hLl hfl hLs hlast hle hrow hF1 hga hac hacm hK hP hFr hgl q1 q2 q3 ex hxb hxe hsn hfle hpc htk hti hX hsl2 hbo hbat hbk hbf hbz hO hrun r1 r2 hF hc0
      go_wp2
      go_region_held3 (fun u => u.cell? ⟨qb, 0, none⟩ = some (.int .i64 (q.acked : Int))) (first | exact unhide HS0 _ ((unhide HFR).mono (fun _ _ t => t.elim)) | exact unhide HS0 _ (((unhide HFR).drew).mono (fun _ _ t => t.elim)) | exact unhide HS0 _ ((((unhide HFR).alloc _).drew).mono (fun _ _ t => t.elim)) | exact unhide HS0 _ (unhide HG)) (refine step_append_run rfl (.tmp 43) (.tmp 58) 76 76 rfl rfl rfl (unhide HRUN) ?_)
      go_wp2
      obtain ⟨r1, r2, hsl2, htk, hti, hbat, hbk, hP, hgl, hF, hrow, hlt, hO, hbf, hbz⟩ := unhide HX
      have fW : Fr (fun x => w1.heap.size ≤ x) wr w' := by
        have f0 : Fr (fun x => w1.heap.size ≤ x) wr (wr.alloc (.cells #[.int .i64 ((q.acked : Int) + 1 + (i : Int)), .slice bo X.length X.length] 107)).drew := ((Fr.refl _ _).alloc _).drew
        rcases r2 with ⟨_, _, hf⟩ | ⟨_, _, hf⟩
        · exact f0.trans hf (fun x _ t => by rw [t.1]; exact hgl)
        · exact f0.trans hf (fun x _ t => t.elim)
      have hgal : 0 < X.length → ga < w1.heap.size := fun h0 => row_lt hrow (by have := flatB_le L (i + 1); omega)
      have hP2 := hP.frame fW (fun x hx t => by omega)
      have hb2 : BAt w' bo X.length X := hbat.stay (fun x off e h0 hlt2 => fW.block x hlt2 (fun t => by have := hbk x off h0 e; have := hgal h0; omega))
      have hP3 := hP2.snoc X bo X.length hb2 (fun x off h0 e => ⟨hbk x off h0 e, hgal h0⟩)
      rw [← htk, hti, show ((q.acked + 1 + i : Nat) : Int) = (q.acked : Int) + 1 + (i : Int) by omega] at hP3
      have hs1 := (unhide HFR).size
      have hO3 := (hO.frame hs1 fW (fun k1 t => by omega)).snoc (by rw [hP.1]) X bo (.int .i64 ((q.acked : Int) + 1 + (i : Int))) (fun h0 => ⟨hgal h0, by rw [← hF]; exact hbf h0, fun j hj => by
        rw [← hF, World.frozen?_of_block (a := ⟨ga, _, none⟩) (fW.block ga (by have := hgal h0; omega) (by have := hgal h0; omega))]
        exact hbz j hj⟩)
      rw [← htk] at hO3
      refine ⟨⟨i + 1, by omega, by go_num, by rw [hsl2]; go_num, lo', lc', gl', _, rfl, hide ⟨r1, hP3, (unhide HG).mono (fun x hx t => by omega), ?_, hO3⟩⟩, by simp [intOf]; omega⟩
      rcases r2 with ⟨e, _, _⟩ | ⟨e, _, _⟩
      · rw [e]; exact hgl
      · simp at e; omega
    · obtain rfl : i = k := by omega
      go_wp2
      go_ret
      obtain ⟨hb, hLI, hLl, hfl, hLs, hlast, hle⟩ := unhide HQ
      obtain ⟨hrow, hF1, hga, hac, hacm⟩ := unhide HR
      obtain ⟨hK, hP, hFr, hgl, hO⟩ := unhide HS
      have ht : L.take i = L := by rw [← hLl, List.take_length]
      rw [ht] at hP hO
      have hs1 := hF1.size
      by_cases hg : ga < w1.heap.size
      · exact ⟨lo, lc, gl, ga, vs, by rw [hLl]; rfl, hK, hP.mono (fun x t => t.1), hF1.trans hFr (fun _ _ t => t), by omega, hga, by omega, hO.mono hFr.size⟩
      · exact ⟨lo, lc, gl, gl + 1, vs, by rw [hLl]; rfl, hK, hP.mono (fun x t => absurd t.2 hg), hF1.trans hFr (fun _ _ t => t), by omega, by omega, by omega, hO.away hg _ _⟩

end

end Go.Proofs.YtjkghgcdkfkekaaGreatDoor

/- A queue with power ('QW'), and a disk on which one was ('QD'): what each call makes of them. -/
namespace Go.Proofs.YtjkghgcdkfkekaaGreatDoor
open Go.RowKit

/-- What a client holds in blocks of its own (of which F holds) stays, as long as these blocks do. -/
def Stable (Sd : World → (Nat → Prop) → Prop) : Prop := ∀ w w' F F', Sd w F → Fr (fun k => ¬ F k) w w' → (∀ k, k < w.heap.size → F k → F' k) → Sd w' F'

theorem stable_true : Stable (fun _ _ => True) := fun _ _ _ _ _ _ _ => trivial

/-- A queue with power; w0: whence. -/
def QW (w0 w : World) (hp b qb n lim : Nat) (q : Qr) (sf : Bool) (B C N : Nat) (Sd : World → (Nat → Prop) → Prop) : Prop :=
  ∃ R O p l d G h a rs s num, d.armed = false ∧ d.pot ≤ B ∧ G ≤ C ∧ num ≤ N ∧ LQ w R O hp b p l qb n lim d G h a rs s num q ∧ (sf = true → s = rs.length ∧ d.wait = []) ∧ Fr (fun _ => False) w0 w ∧ (∀ k, k < w0.heap.size → R k = 0 ∧ ¬ O k) ∧ Sd w (fun k => R k = 0 ∧ ¬ O k)

/-- A disk with power on which there is a queue, all of it safe. -/
def QD (w0 w : World) (hp b n lim : Nat) (q : Qr) (B C : Nat) (Sd : World → (Nat → Prop) → Prop) : Prop :=
  ∃ R d, d.armed = false ∧ d.down = false ∧ d.wait = [] ∧ d.pot ≤ B ∧ Dn w R hp b n d ∧ Fnd n d C (TlOf (fun l => qOf l = some q)) ∧ q.Ok lim ∧ Fr (fun _ => False) w0 w ∧ (∀ k, k < w0.heap.size → R k = 0) ∧ Sd w (fun k => R k = 0)

section
variable {w0 w w' : World} {hp b qb n lim : Nat} {q : Qr} {sf : Bool} {B C N : Nat} {Sd : World → (Nat → Prop) → Prop}

theorem QW.mono {B' C' N' : Nat} (h : QW w0 w hp b qb n lim q sf B C N Sd) (hB : B ≤ B') (hC : C ≤ C') (hN : N ≤ N') : QW w0 w hp b qb n lim q sf B' C' N' Sd := by
  obtain ⟨R, O, p, l, d, G, k, a, rs, s, num, h1, h2, h3, h4, L, h5⟩ := h
  exact ⟨R, O, p, l, d, G, k, a, rs, s, num, h1, by omega, by omega, by omega, L, h5⟩
theorem QW.unsafe' (h : QW w0 w hp b qb n lim q sf B C N Sd) : QW w0 w hp b qb n lim q false B C N Sd := by
  obtain ⟨R, O, p, l, d, G, k, a, rs, s, num, h1, h2, h3, h4, L, h5, h6⟩ := h
  exact ⟨R, O, p, l, d, G, k, a, rs, s, num, h1, h2, h3, h4, L, fun h => absurd h (by decide), h6⟩

theorem QW.keep (hS : Stable Sd) (h : QW w0 w hp b qb n lim q sf B C N Sd) (hF : Fr (fun _ => False) w w') : QW w0 w' hp b qb n lim q sf B C N Sd := by
  obtain ⟨R, O, p, l, d, G, k, a, rs, s, num, h1, h2, h3, h4, L, h5, h6, h7, h8⟩ := h
  exact ⟨R, O, p, l, d, G, k, a, rs, s, num, h1, h2, h3, h4, L.keep hF, h5, h6.trans hF (fun _ _ t => t), h7, hS _ _ _ _ h8 (hF.mono (fun _ _ t => t.elim)) (fun _ _ t => t)⟩

theorem QD.keep (hS : Stable Sd) (h : QD w0 w hp b n lim q B C Sd) (hF : Fr (fun _ => False) w w') : QD w0 w' hp b n lim q B C Sd := by
  obtain ⟨R, d, h1, h2, h3, h4, D, h5, h6, h7, h8, h9⟩ := h
  exact ⟨R, d, h1, h2, h3, h4, D.keep hF, h5, h6, h7.trans hF (fun _ _ t => t), h8, hS _ _ _ _ h9 (hF.mono (fun _ _ t => t.elim)) (fun _ _ t => t)⟩

/-- A client turns blocks of its own. -/
theorem QW.own {S : Nat → Prop} {Sd' : World → (Nat → Prop) → Prop} (hT : TabAt w0) (h : QW w0 w hp b qb n lim q sf B C N Sd) (hF : Fr S w w') (hSd : ∀ F : Nat → Prop, (∀ k, w.heap.size ≤ k → F k) → Sd w F → (∀ k, k < w.heap.size → S k → F k ∧ w0.heap.size ≤ k) ∧ Sd' w' F) : QW w0 w' hp b qb n lim q sf B C N Sd' := by
  obtain ⟨R, O, p, l, d, G, k, a, rs, s, num, h1, h2, h3, h4, L, h5, h6, h7, h8⟩ := h
  have hz : ∀ k, w.heap.size ≤ k → R k = 0 ∧ ¬ O k := fun k hk => ⟨L.ls.dn.dk.zero k hk, fun t => by have := (L.qm.own k t).1; omega⟩
  obtain ⟨k1, k2⟩ := hSd _ hz h8
  have hp4 := hT.pos
  exact ⟨R, O, p, l, d, G, k, a, rs, s, num, h1, h2, h3, h4, L.own hF (fun k hk t => ⟨(k1 k hk t).1.1, by have := (k1 k hk t).2; omega, (k1 k hk t).1.2⟩), h5, h6.trans hF (fun k hk t => by have := (k1 k (Nat.lt_of_lt_of_le hk h6.size) t).2; omega), h7, k2⟩

theorem QW.fr (h : QW w0 w hp b qb n lim q sf B C N Sd) : Fr (fun _ => False) w0 w := by
  obtain ⟨R, O, p, l, d, G, k, a, rs, s, num, h1, h2, h3, h4, L, h5, h6, h7, h8⟩ := h
  exact h6
theorem QD.fr (h : QD w0 w hp b n lim q B C Sd) : Fr (fun _ => False) w0 w := by
  obtain ⟨R, d, h1, h2, h3, h4, D, h5, h6, h7, h8, h9⟩ := h
  exact h7
theorem QW.ok (h : QW w0 w hp b qb n lim q sf B C N Sd) : q.Ok lim := by
  obtain ⟨R, O, p, l, d, G, k, a, rs, s, num, h1, h2, h3, h4, L, h5, h6, h7, h8⟩ := h
  exact L.ok
theorem QW.side (h : QW w0 w hp b qb n lim q sf B C N Sd) : ∃ F, Sd w F := by
  obtain ⟨R, O, p, l, d, G, k, a, rs, s, num, h1, h2, h3, h4, L, h5, h6, h7, h8⟩ := h
  exact ⟨_, h8⟩

theorem QW.len (h : QW w0 w hp b qb n lim q sf B C N Sd) : Calls Tryz.prog 29 #[.pointer (some ⟨qb, 0, none⟩)] w fun e w' => e = .returned (.int .i64 (q.items.length : Int)) ∧ w' = w := by
  obtain ⟨R, O, p, l, d, G, k, a, rs, s, num, h1, h2, h3, h4, L, h5, h6, h7, h8⟩ := h
  exact L.qm.len
theorem QW.acked (h : QW w0 w hp b qb n lim q sf B C N Sd) : Calls Tryz.prog 32 #[.pointer (some ⟨qb, 0, none⟩)] w fun e w' => e = .returned (.int .i64 (q.acked : Int)) ∧ w' = w := by
  obtain ⟨R, O, p, l, d, G, k, a, rs, s, num, h1, h2, h3, h4, L, h5, h6, h7, h8⟩ := h
  exact L.qm.acked
theorem QW.last (hS : Stable Sd) (h : QW w0 w hp b qb n lim q sf B C N Sd) : Calls Tryz.prog 31 #[.pointer (some ⟨qb, 0, none⟩)] w fun e w' => e = .returned (.int .i64 (q.last : Int)) ∧ Hid (QW w0 w' hp b qb n lim q sf B C N Sd) := by
  have h' := h
  obtain ⟨R, O, p, l, d, G, k, a, rs, s, num, h1, h2, h3, h4, L, h5, h6, h7, h8⟩ := h
  exact (L.qm.last L.ok).mono (fun e w' t => ⟨t.1, hide (h'.keep hS t.2)⟩)
theorem QW.peek (hS : Stable Sd) (hl : Lim lim n) (h : QW w0 w hp b qb n lim q sf B C N Sd) (most : Int) : Calls Tryz.prog 30 #[.pointer (some ⟨qb, 0, none⟩), .int .i64 most] w fun e w' => PeekPost w q.acked (q.items.take most.toNat) e w' ∧ Hid (QW w0 w' hp b qb n lim q sf B C N Sd) := by
  have h' := h
  obtain ⟨R, O, p, l, d, G, k, a, rs, s, num, h1, h2, h3, h4, L, h5, h6, h7, h8⟩ := h
  refine (L.qm.peek (L.ok.mono hl.le) most).mono (fun e w' t => ⟨t, hide ?_⟩)
  obtain ⟨lo, lc, gl, ga, vs, _, _, _, hF, _⟩ := t
  exact h'.keep hS hF

/-- Behind a change. -/
theorem QW.did {q' : Qr} {fail : Bool} {R : Nat → Nat} {O : Nat → Prop} {p l : Nat} {d : Dk} {G num : Nat} (hS : Stable Sd) (ha : d.armed = false) (hB : d.pot ≤ B) (hC : G ≤ C) (hN : num ≤ N) (hF : Fr (fun _ => False) w0 w) (h7 : ∀ k, k < w0.heap.size → R k = 0 ∧ ¬ O k) (h8 : Sd w (fun k => R k = 0 ∧ ¬ O k)) (P : DoPost w R O hp b p l qb n lim d G num q' (fun _ _ => True) fail w') : fail = false ∧ QW w0 w' hp b qb n lim q' false (B + 180 * hlf n + 6) (C + 1 + hlf n) (N + 1) Sd := by
  obtain ⟨d', R', u1, f1, D1, st, fnd, ar, k1, k2⟩ := P
  have hf := ar ha
  obtain ⟨G', h', a', rs', s', num', O', e1, e2, e3, e4, e5⟩ := k2 hf
  have hst := st.armed
  have hpt := st.pot
  refine ⟨hf, R', O', p, l, d', G', h', a', rs', s', num', hst.trans ha, by omega, by omega, by omega, e3, fun h => absurd h (by decide), hF.trans f1 (fun k hk t => by have := h7 k hk; rcases t with t | t; (· exact t this.1); (· exact this.2 t)), fun k hk => ?_, hS _ _ _ _ h8 (f1.mono (fun k _ t h => by rcases t with t | t; (· exact t h.1); (· exact h.2 t))) (fun k hk t => ?_)⟩
  · have hlt := Nat.lt_of_lt_of_le hk hF.size
    exact ⟨by rw [u1 k hlt]; exact (h7 k hk).1, fun t => (h7 k hk).2 (e5 k hlt t)⟩
  · exact ⟨by rw [u1 k hk]; exact t.1, fun t' => t.2 (e5 k hk t')⟩

theorem QW.putNo (hS : Stable Sd) (h : QW w0 w hp b qb n lim q sf B C N Sd) (bo : Option Addr) (bc : Nat) (bs : Bs) (hB : BAt w bo bc bs) (hE : putE q lim bs ≠ 0) :
    Calls Tryz.prog 23 #[.pointer (some ⟨qb, 0, none⟩), .slice bo bs.length bc] w fun e w' => e = .returned (.tuple #[.int .i64 0, errV (putE q lim bs)]) ∧ Hid (QW w0 w' hp b qb n lim q sf B C N Sd) := by
  have h' := h
  obtain ⟨R, O, p, l, d, G, k, a, rs, s, num, h1, h2, h3, h4, L, h5, h6, h7, h8⟩ := h
  exact (L.putNo bo bc bs hB hE).mono (fun e w' t => ⟨t.1, hide (h'.keep hS t.2)⟩)

theorem QW.putOk (hS : Stable Sd) (hl : Lim lim n) (h : QW w0 w hp b qb n lim q sf B C N Sd) (hB' : B + 180 * hlf n + 600000 < 576460752303423488) (hC' : C ≤ 150000000000000) (hN' : N < 4611686018427387904) (bo : Option Addr) (bc : Nat) (bs : Bs) (hB : BAt w bo bc bs) (hE : putE q lim bs = 0) :
    Calls Tryz.prog 23 #[.pointer (some ⟨qb, 0, none⟩), .slice bo bs.length bc] w fun e w' => e = .returned (.tuple #[.int .i64 ((q.last + 1 : Nat) : Int), .nilIface]) ∧ Hid (QW w0 w' hp b qb n lim ⟨q.acked, q.items ++ [bs]⟩ false (B + 180 * hlf n + 6) (C + 1 + hlf n) (N + 1) Sd) := by
  obtain ⟨R, O, p, l, d, G, k, a, rs, s, num, h1, h2, h3, h4, L, h5, h6, h7, h8⟩ := h
  refine (L.putOk hl (by omega) (by omega) (by omega) bo bc bs hB hE (fun _ _ => True) trivial trivial trivial).mono ?_
  rintro e w' ⟨fail, he, P⟩
  obtain ⟨hf, hq⟩ := QW.did hS h1 h2 h3 h4 h6 h7 h8 P
  rw [hf] at he
  refine ⟨?_, hide hq⟩
  rw [he]
  have : (⟨q.acked, q.items ++ [bs]⟩ : Qr).last = q.last + 1 := by simp [Qr.last]; omega
  rw [this]; rfl

theorem QW.ackNo (hS : Stable Sd) (h : QW w0 w hp b qb n lim q sf B C N Sd) (seq : Int) (hs : seq < 0 ∨ (q.last : Int) < seq) :
    Calls Tryz.prog 44 #[.pointer (some ⟨qb, 0, none⟩), .int .i64 seq] w fun e w' => e = .returned (errV 1) ∧ Hid (QW w0 w' hp b qb n lim q sf B C N Sd) := by
  have h' := h
  obtain ⟨R, O, p, l, d, G, k, a, rs, s, num, h1, h2, h3, h4, L, h5, h6, h7, h8⟩ := h
  exact (L.ackNo seq hs).mono (fun e w' t => ⟨t.1, hide (h'.keep hS t.2)⟩)

/-- The row behind an ack. -/
def Qr.ack (q : Qr) (s : Nat) : Qr := if s ≤ q.acked then q else ⟨s, q.items.drop (s - q.acked)⟩

theorem QW.ackYes (hS : Stable Sd) (hl : Lim lim n) (h : QW w0 w hp b qb n lim q sf B C N Sd) (hB' : B + 180 * hlf n + 600000 < 576460752303423488) (hC' : C ≤ 140737488355328) (hN' : N < 4611686018427387904) (s' : Nat) (hs : s' ≤ q.last) :
    Calls Tryz.prog 44 #[.pointer (some ⟨qb, 0, none⟩), .int .i64 (s' : Int)] w fun e w' => e = .returned .nilIface ∧ Hid (QW w0 w' hp b qb n lim (q.ack s') false (B + 180 * hlf n + 6) (C + 1 + hlf n) (N + 1) Sd) := by
  have h' := h
  obtain ⟨R, O, p, l, d, G, k, a, rs, s, num, h1, h2, h3, h4, L, h5, h6, h7, h8⟩ := h
  by_cases hle : s' ≤ q.acked
  · rw [Qr.ack, if_pos hle]
    exact (L.ackNil s' hle).mono (fun e w' t => ⟨t.1, hide (((h'.keep hS t.2).unsafe').mono (by omega) (by omega) (by omega))⟩)
  · rw [Qr.ack, if_neg hle]
    refine (L.ackOk hl (by omega) (by omega) (by omega) s' (by omega) hs (fun _ _ => True) trivial trivial trivial).mono ?_
    rintro e w' ⟨fail, he, P⟩
    obtain ⟨hf, hq⟩ := QW.did hS h1 h2 h3 h4 h6 h7 h8 P
    rw [hf] at he
    exact ⟨he, hide hq⟩

theorem QW.sync (hS : Stable Sd) (h : QW w0 w hp b qb n lim q sf B C N Sd) (hB' : B + 600000 < 576460752303423488) :
    Calls Tryz.prog 21 #[.pointer (some ⟨qb, 0, none⟩)] w fun e w' => e = .returned .nilIface ∧ Hid (QW w0 w' hp b qb n lim q true (B + 2) C N Sd) := by
  obtain ⟨R, O, p, l, d, G, k, a, rs, s, num, h1, h2, h3, h4, L, h5, h6, h7, h8⟩ := h
  refine (L.sync (by omega) (fun _ _ => True) trivial).mono ?_
  rintro e w' ⟨fail, d', R', he, u1, f1, D1, st, fnd, ar, k1, k2⟩
  have hf := ar h1
  rw [hf] at he
  have hst := st.armed
  have hpt := st.pot
  obtain ⟨L2, hw2⟩ := k2 hf
  refine ⟨he, hide ⟨R', O, p, l, d', G, k, a, rs, rs.length, num, hst.trans h1, by omega, h3, h4, L2, fun _ => ⟨rfl, hw2⟩, h6.trans f1 (fun k hk t => by have := h7 k hk; rcases t with t | t; (· exact t this.1); (· exact this.2 t)), fun k hk => ⟨by rw [u1 k (Nat.lt_of_lt_of_le hk h6.size)]; exact (h7 k hk).1, (h7 k hk).2⟩, hS _ _ _ _ h8 (f1.mono (fun k _ t h => by rcases t with t | t; (· exact t h.1); (· exact h.2 t))) (fun k hk t => ⟨by rw [u1 k hk]; exact t.1, t.2⟩)⟩⟩

theorem QW.tl {rs : List Bs} (h : qOf rs = some q) : TlOf (fun l => qOf l = some q) rs rs.length := fun m h1 h2 => by
  obtain rfl : m = rs.length := by omega
  rw [List.take_length]; exact h

/-- A queue that is safe, as a disk. -/
theorem QW.qd (hS : Stable Sd) (h : QW w0 w hp b qb n lim q true B C N Sd) : QD w0 w hp b n lim q B C Sd := by
  obtain ⟨R, O, p, l, d, G, k, a, rs, s, num, h1, h2, h3, h4, L, h5, h6, h7, h8⟩ := h
  obtain ⟨e1, e2⟩ := h5 rfl
  subst e1
  exact ⟨R, d, h1, L.ls.up, e2, h2, L.ls.dn, (L.ls.fnd (QW.tl L.told)).mono h3 (fun _ _ t => t), L.ok, h6, fun k hk => (h7 k hk).1, hS _ _ _ _ h8 (Fr.refl _ _) (fun _ _ t => t.1)⟩

theorem QD.crash (hS : Stable Sd) (h : QD w0 w hp b n lim q B C Sd) (hB' : B + 600000 < 1099511627776) :
    Calls Tryz.prog 25 #[.pointer (some ⟨hp, 0, none⟩), .slice none 0 0] w fun e w' => e = .returned (.tuple #[]) ∧ Hid (QD w0 w' hp b n lim q B C Sd) := by
  obtain ⟨R, d, h1, h2, h3, h4, D, h5, h6, h7, h8, h9⟩ := h
  refine (D.crash (by omega) none 0 [] ⟨fun h => (by cases h), by decide⟩ (fun h => by cases h)).mono ?_
  rintro e w' ⟨rfl, R', D1, u1, f1⟩
  refine ⟨rfl, hide ⟨R', d.crash [], rfl, rfl, rfl, by rw [Dk.crash_pot]; exact h4, D1, fun sub hs => ?_, h6, h7.trans f1 (fun k hk t => t (h8 k hk)), fun k hk => by rw [u1 k (Nat.lt_of_lt_of_le hk h7.size)]; exact h8 k hk, hS _ _ _ _ h9 (f1.mono (fun k _ t => t)) (fun k hk t => by rw [u1 k hk]; exact t)⟩⟩
  have e1 : (d.crash []).wait = [] := rfl
  rw [e1] at hs
  rw [List.eq_nil_of_sublist_nil hs]
  have e2 : (d.crash []).safe = d.safe := by simp [Dk.crash, h3, kept, over_nil]
  rw [e2]
  exact h5 [] (List.nil_sublist _)

/-- A disk of it. -/
theorem QD.disk (hS : Stable Sd) (h : QD w0 w hp b n lim q B C Sd) : Calls Tryz.prog 11 #[.pointer (some ⟨hp, 0, none⟩)] w fun e w' => ∃ p, e = .returned (.pointer (some ⟨p, 0, none⟩)) ∧ Hid (∃ R d, d.armed = false ∧ d.down = false ∧ d.wait = [] ∧ d.pot ≤ B ∧ Dn w' R hp b n d ∧ Fnd n d C (TlOf (fun l => qOf l = some q)) ∧ q.Ok lim ∧ Fr (fun _ => False) w0 w' ∧ (∀ k, k < w0.heap.size → R k = 0) ∧ Sd w' (fun k => R k = 0) ∧ Dsk w' R p b n) := by
  obtain ⟨R, d, h1, h2, h3, h4, D, h5, h6, h7, h8, h9⟩ := h
  refine D.disk.mono ?_
  rintro e w' ⟨R', p, he, k1, k2, k3, k4⟩
  exact ⟨p, he, hide ⟨R', d, h1, h2, h3, h4, k2, h5, h6, h7.trans k4 (fun _ _ t => t), fun k hk => by rw [k3 k (Nat.lt_of_lt_of_le hk h7.size)]; exact h8 k hk, hS _ _ _ _ h9 (k4.mono (fun _ _ t => t.elim)) (fun k hk t => by rw [k3 k hk]; exact t), k1⟩⟩

theorem QD.open (hS : Stable Sd) (hl : Lim lim n) {R : Nat → Nat} {d : Dk} {p : Nat} (h1 : d.armed = false) (h2 : d.down = false) (h3 : d.wait = []) (h4 : d.pot ≤ B) (D : Dn w R hp b n d) (h5 : Fnd n d C (TlOf (fun l => qOf l = some q))) (h6 : q.Ok lim) (h7 : Fr (fun _ => False) w0 w) (h8 : ∀ k, k < w0.heap.size → R k = 0) (h9 : Sd w (fun k => R k = 0)) (hk : Dsk w R p b n) (hB' : B + 180 * hlf n + 600000 < 576460752303423488) (hC' : C ≤ 140737488355328) :
    Calls Tryz.prog 26 #[.pointer (some ⟨p, 0, none⟩), .int .i64 (lim : Int)] w fun e w' => ∃ qb', e = .returned (.tuple #[.pointer (some ⟨qb', 0, none⟩), .nilIface]) ∧ Hid (QW w0 w' hp b qb' n lim q false (B + 180 * hlf n + 6) (C + 1 + hlf n) 1 Sd) := by
  refine (qopen_of hk hl (fun l hl => ⟨q, hl, h6⟩) D.tab.1.pos (wopen_re D hk h2 h3 hl.four hl.max (by omega) h5 hC')).mono ?_
  rintro e w' ⟨fail, d', R', u1, f1, D1, st, fnd, ar, e1, e2⟩
  obtain ⟨qb', l, G', h', a', rs', q2, O, he, hG, L, hok, hO⟩ := e2 (ar h1)
  have hst := st.armed
  have hpt := st.pot
  have hq2 : q2 = q := by
    have := L.told
    rw [hok] at this
    injection this with this
    exact this.symm
  subst hq2
  exact ⟨qb', he, hide ⟨R', O, p, l, d', G', h', a', rs', rs'.length, 1, hst.trans h1, by omega, hG, Nat.le_refl _, L, fun h => absurd h (by decide), h7.trans f1 (fun k hk t => t (h8 k hk)), fun k hk => ⟨by rw [u1 k (Nat.lt_of_lt_of_le hk h7.size)]; exact h8 k hk, fun t => by have := hO k t; have := h7.size; omega⟩, hS _ _ _ _ h9 (f1.mono (fun k _ t => t)) (fun k hk t => ⟨by rw [u1 k hk]; exact t, fun t' => by have := hO k t'; omega⟩)⟩⟩

end

end Go.Proofs.YtjkghgcdkfkekaaGreatDoor

