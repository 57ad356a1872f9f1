/- How the argument of HashPlays reads: a slice of calls, each of two numbers and a slice of bytes; what the second form's bound gives. -/
import Derived.Test.YtchdjfhenjbcnaaDoorO1
import Derived.Deep.Slices
namespace Go.Proofs.YtchdjfhenjbcnaaDoor
open Go.ChangeShapes Go.WideShapes Go.ChangeAt Go.RowKit Go.Deep

/-- A call of the script, as it lies in memory. -/
structure Pl where
  on : Int
  act : Int
  ao : Option Addr
  cap : Nat
  bs : List UInt8

def Pl.vals (q : Pl) : List Value := [.int .i64 q.on, .int .i64 q.act, .slice q.ao q.bs.length q.cap]

/-- All bytes of a script. -/
def tot (ps : List Pl) : Nat := (ps.map fun q => q.bs.length).sum

theorem tot_snoc (ps : List Pl) (q : Pl) : tot (ps ++ [q]) = tot ps + q.bs.length := by simp [tot]
theorem tot_next {ps : List Pl} {n : Nat} (h : n < ps.length) : tot (ps.take (n + 1)) = tot (ps.take n) + ps[n].bs.length := by
  rw [List.take_succ_eq_append_getElem h, tot_snoc]
theorem tot_take (ps : List Pl) (n : Nat) : tot (ps.take n) ≤ tot ps := by
  have h := congrArg tot (List.take_append_drop n ps)
  simp only [tot, List.map_append, List.sum_append] at h ⊢
  omega

/-- The script in memory. -/
def OAt (w : World) (lo : Option Addr) (ps : List Pl) : Prop :=
  (0 < ps.length → ∃ b off, lo = some ⟨b, off, none⟩ ∧ ∀ j (hj : j < ps.length) i, i < 3 → w.cell? ⟨b, off + j * 3 + i, none⟩ = (ps[j].vals)[i]?) ∧ ∀ j (hj : j < ps.length), BAt w ps[j].ao ps[j].cap ps[j].bs ∧ ps[j].bs.length ≤ ps[j].cap

theorem OAt.cells {w w' : World} {b off : Nat} {ps : List Pl} (h : OAt w (some ⟨b, off, none⟩) ps) (hf : Fr (fun _ => False) w w') (j : Nat) (hj : j < ps.length) :
    w'.cell? ⟨b, off + j * 3, none⟩ = some (.int .i64 ps[j].on) ∧ w'.cell? ⟨b, off + j * 3 + 1, none⟩ = some (.int .i64 ps[j].act) ∧ w'.cell? ⟨b, off + j * 3 + 2, none⟩ = some (.slice ps[j].ao ps[j].bs.length ps[j].cap) := by
  obtain ⟨b', off', e, hc⟩ := h.1 (by omega)
  injection e with e
  injection e with e1 e2
  subst e1 e2
  have key : ∀ i v, i < 3 → (ps[j].vals)[i]? = some v → w'.cell? ⟨b, off + j * 3 + i, none⟩ = some v := fun i v hi hv => by
    have h1 := hc j hj i hi
    rw [hv] at h1
    exact (hf.cell (a := ⟨b, off + j * 3 + i, none⟩) (World.block_lt_of_cell? _ _ h1) (fun t => t)).trans h1
  exact ⟨key 0 _ (by omega) rfl, key 1 _ (by omega) rfl, key 2 _ (by omega) rfl⟩

theorem Tryd.cells35 : Tryd.prog.cellsOf 35 = 3 := by kernel_rfl

theorem one_of {l : List Value} {i : Nat} {v : Value} (h : (l.drop i).take 1 = [v]) : l[i]? = some v := by
  have : ((l.drop i).take 1)[0]? = some v := by rw [h]; rfl
  simpa using this

theorem list_of {α : Type} {Good : Nat → α → Prop} : ∀ n, (∀ j, j < n → ∃ q, Good j q) → ∃ l : List α, l.length = n ∧ ∀ j (hj : j < l.length), Good j l[j]
  | 0, _ => ⟨[], rfl, fun j hj => absurd hj (by simp)⟩
  | n + 1, h => by
    obtain ⟨l, hl, hg⟩ := list_of n (fun j hj => h j (by omega))
    obtain ⟨q, hq⟩ := h n (by omega)
    refine ⟨l ++ [q], by simp [hl], fun j hj => ?_⟩
    by_cases hj2 : j < l.length
    · rw [List.getElem_append_left hj2]; exact hg j hj2
    · have : j = n := by simp at hj; omega
      subst this
      rw [List.getElem_append_right (by omega)]
      simpa using hq

/-- What a call's bytes are, as far as the data say. -/
def Pl.raw (w : World) (q : Pl) : Prop := (q.ao = none → q.bs.length = 0 ∧ q.cap = 0) ∧ (0 < q.bs.length → ∃ b off, q.ao = some ⟨b, off, none⟩ ∧ ∀ j (hj : j < q.bs.length), w.cell? ⟨b, off + j, none⟩ = some (.int .u8 (q.bs[j].toNat))) ∧ q.bs.length ≤ q.cap

section
variable {H : Type} {enc : TypeId × Value → H} {w : World} {held : Bool}

theorem open_play {fuel : Nat} {cs : List Value} {x : DataW H × List MemPlace} (h : DataW.trod enc Tryd.prog w 0 (fun _ => true) held fuel 35 cs = some x) :
    ∃ q : Pl, cs = q.vals ∧ q.raw w ∧ q.bs.length ≤ Rows.uptoBulk x.1 := by
  obtain ⟨xs, n, _, rfl, hl, hlen, hf⟩ := DataW.trod_struct Tryd.underlying35 h
  rw [Tryd.cells35] at hl
  have g0 := hf 0 _ rfl
  have g1 := hf 1 _ rfl
  have g2 := hf 2 _ rfl
  match xs, hlen with
  | [y0, y1, y2], _ =>
    simp only [List.getElem?_cons_zero, List.getElem?_cons_succ] at g0 g1 g2
    obtain ⟨a0, e0, rfl, w0⟩ := DataW.trod_int Tryd.underlying3 g0
    obtain ⟨a1, e1, rfl, w1⟩ := DataW.trod_int Tryd.underlying3 g1
    match cs, hl with
    | [c0, c1, c2], _ =>
      have f0 := one_of e0
      have f1 := one_of e1
      simp at f0 f1
      subst f0 f1
      have g3 : DataW.trod enc Tryd.prog w 0 (fun _ => true) held n 22 [c2] = some y2 := g2
      obtain ⟨a, len, cap, rfl⟩ : ∃ a len cap, c2 = .slice a len cap := by
        rcases open_slice Tryd.underlying22 g3 with ⟨hc, _⟩ | ⟨a, len, cap, _, _, _, _, hc, _⟩
        · exact ⟨none, 0, 0, by simpa using hc⟩
        · exact ⟨some a, len, cap, by simpa using hc⟩
      obtain ⟨bs, h1, h2, h3, h4, h5⟩ := open_bytes g3
      subst h1
      refine ⟨⟨a0, a1, a, cap, bs⟩, rfl, ⟨h2, h3, h4⟩, ?_⟩
      rcases h5 with h | ⟨elems, rest, e, h6, _⟩
      · show bs.length ≤ _
        omega
      · have h7 := bulk_length elems
        obtain ⟨y, z⟩ := y2
        have e' : y = .slice elems rest := e
        subst e'
        show bs.length ≤ _
        simp only [List.map_cons, List.map_nil, Rows.uptoBulk, Rows.uptoBulkAll]
        omega

theorem bulk_sum : ∀ (ps : List Pl) (l : List (DataW H)), l.length = ps.length → (∀ j (hj : j < ps.length) (hl : j < l.length), ps[j].bs.length ≤ Rows.uptoBulk l[j]) → tot ps ≤ Rows.uptoBulkAll l
  | [], _, _, _ => by simp [tot]
  | q :: ps, [], h, _ => by simp at h
  | q :: ps, d :: l, h, hb => by
    have h1 := hb 0 (by simp) (by simp)
    have h2 := bulk_sum ps l (by simpa using h) (fun j hj hl => by have h3 := hb (j + 1) (by simp; omega) (by simp; omega); exact h3)
    simp only [List.getElem_cons_zero] at h1
    simp only [tot, List.map_cons, List.sum_cons, Rows.uptoBulkAll] at h2 ⊢
    omega

/-- A slice of calls. -/
theorem open_plays {fuel : Nat} {a0 : Option Addr} {len cap : Nat} {x : DataW H × List MemPlace} (h : DataW.trod enc Tryd.prog w 0 (fun _ => true) held fuel 29 [.slice a0 len cap] = some x) (hk : Rows.uptoBulk x.1 ≤ 1048576) :
    ∃ ps : List Pl, ps.length = len ∧ OAt w a0 ps ∧ ps.length ≤ 1048576 ∧ tot ps ≤ 1048576 := by
  rcases open_slice Tryd.underlying29 h with ⟨hcs, hx⟩ | ⟨a, len', cap', m, n, D, Pla, hcs, hb, hl, hm, hmm, hx, hel⟩
  · simp at hcs
    obtain ⟨rfl, rfl, rfl⟩ := hcs
    exact ⟨[], rfl, ⟨fun h0 => absurd h0 (by simp), fun j hj => absurd hj (by simp)⟩, by simp, by simp [tot]⟩
  · simp at hcs
    obtain ⟨rfl, rfl, rfl⟩ := hcs
    rw [Tryd.cells35] at hel
    have hmc : m = cap := by simpa using hmm
    obtain ⟨ps, hpl, hps⟩ := list_of (Good := fun j (q : Pl) => q.bs.length ≤ Rows.uptoBulk (D j) ∧ q.raw w ∧ ∀ i, i < 3 → w.cell? ((a.add (j * 3)).add i) = (q.vals)[i]?) len (fun j hj => by
      obtain ⟨cs', h1, h2⟩ := hel j (by omega)
      obtain ⟨q, e1, e2, e3⟩ := open_play h2
      obtain ⟨_, _, h4⟩ := World.cells?_some h1
      refine ⟨q, e3, e2, fun i hi => ?_⟩
      rw [h4 i hi, e1])
    have hbk : Rows.uptoBulkAll ((List.range len).map D) ≤ 1048576 := by
      rw [hx] at hk
      simp only [Rows.uptoBulk] at hk
      omega
    have ht : tot ps ≤ 1048576 := Nat.le_trans (bulk_sum ps ((List.range len).map D) (by simp [hpl]) (fun j hj hl => by simpa using (hps j hj).1)) hbk
    have hn := bulk_length ((List.range len).map D)
    rw [List.length_map, List.length_range] at hn
    refine ⟨ps, hpl, ⟨fun h0 => ?_, fun j hj => ?_⟩, by omega, ht⟩
    · obtain ⟨b, off, spot⟩ := a
      have hc := (hps 0 (by omega)).2.2 0 (by omega)
      have hspot : spot = none := by
        have hv : (ps[0].vals)[0]? = some (.int .i64 ps[0].on) := rfl
        rw [hv] at hc
        simpa [Addr.add] using World.cell?_spot hc
      subst hspot
      refine ⟨b, off, rfl, fun j hj i hi => ?_⟩
      have := (hps j hj).2.2 i hi
      rwa [Addr.add_lit, Addr.add_lit] at this
    · obtain ⟨h1, h2, h3⟩ := (hps j hj).2.1
      have h4 := tot_take ps (j + 1)
      rw [tot_next hj] at h4
      exact ⟨⟨h1, h2, by omega⟩, h3⟩

end
end Go.Proofs.YtchdjfhenjbcnaaDoor
