import Derived.Test.YtabhfeocelljdaaGreatDoorZX5
import Derived.Test.YtabhfeocelljdaaGreatDoorZUA
import Derived.Test.YtabhfeocelljdaaGreatDoorC1
import Derived.Test.YtabhfeocelljdaaGreatDoorZO2
import Derived.Test.YtabhfeocelljdaaGreatDoorZG4
import Derived.Test.YtabhfeocelljdaaGreatDoorZXM
import Derived.Test.YtabhfeocelljdaaGreatDoorI6
import Derived.Test.YtabhfeocelljdaaGreatDoorI3
import Derived.Test.YtabhfeocelljdaaGreatDoorZTC
import Derived.Test.YtabhfeocelljdaaGreatDoorZU5
/- The law's own 'sent': frames made into one text. -/
namespace Go.Proofs.YtabhfeocelljdaaGreatDoor
open Go.RowKit Go.Maps

def sentF (l : List Fm) : List UInt8 := l.flatMap (fun f => (makeF [] f).1)

theorem makeF_small (f : Fm) : (makeF [] f).1.length ≤ 1000000 := by
  unfold makeF
  by_cases h : f.may = true
  · rw [if_pos h, if_pos (by simp)]
    show (sealed [] f.raw).length ≤ 1000000
    rw [sealed_length]
    have := Fm.raw_small h
    omega
  · rw [if_neg h]
    simp

theorem sentF_le {fs : List Fm} (h : ∀ f ∈ fs, (makeF [] f).1.length ≤ 1000000) (i : Nat) : (sentF (fs.take i)).length ≤ 1000000 * i := by
  have h1 : ∀ l : List Fm, (∀ f ∈ l, (makeF [] f).1.length ≤ 1000000) → (sentF l).length ≤ 1000000 * l.length := by
    intro l
    induction l with
    | nil => intro _; simp [sentF]
    | cons x r ih =>
      intro h
      have a1 := ih (fun f hf => h f (List.mem_cons_of_mem _ hf))
      have a2 := h x List.mem_cons_self
      unfold sentF at a1 ⊢
      rw [List.flatMap_cons, List.length_append, List.length_cons]
      omega
  have h2 := h1 (fs.take i) (fun f hf => h f (List.mem_of_mem_take hf))
  rw [List.length_take] at h2
  omega

set_option maxHeartbeats 4000000 in
set_option maxRecDepth 20000 in
theorem sent_any {w : World} (hT : TabRZ w) (fo : Option Addr) (fc : Nat) (fs : List Fm) (hF : FsAt w fo fs) (hn : fs.length ≤ 1000) :
    Calls Tryz.prog 19 #[.slice fo fs.length fc] w fun e w' => e = .returned (.string ⟨(sentF fs).toArray⟩) ∧ Hid (Fr (fun _ => False) w w') := by
  have HF := hide hF
  have HT := hide hT
  have HM : Hid (∀ f ∈ fs, (makeF [] f).1.length ≤ 1000000) := hide (fun f _ => makeF_small f)
  have hnI : (fs.length : Int) ≤ 1000 := by omega
  clear hF hT
  go_enter Tryz.func19, Tryz.ntmps19
  go_wp2_with fail
  go_loopw [3, 4] (fun sv iv wr => ∃ i : Nat, i ≤ fs.length ∧ sv = .string ⟨(sentF (fs.take i)).toArray⟩ ∧ iv = .int .i64 i ∧ Hid (Fr (fun _ => False) w wr)) (fun _ iv _ => fs.length - (intOf iv).toNat)
  case atStart => exact ⟨0, Nat.zero_le _, rfl, rfl, hide (Fr.refl _ _)⟩
  case round =>
    obtain ⟨i, hi, rfl, rfl, HK⟩ := hrel
    by_cases hil : i < fs.length
    · have hiI : (i : Int) < (fs.length : Int) := by omega
      obtain ⟨b, off, e, hc⟩ := (unhide HF).cells (by omega)
      subst e
      obtain ⟨io, ic, bo, bc, hcl, hAt⟩ := hc i hil
      have hcw : ∀ j, j < 5 → wr.cell? ⟨b, off + i * 5 + j, none⟩ = (fs[i].cells io ic bo bc)[j]? := fun j hj => by
        have h1 := hcl j hj
        rw [← Nat.add_assoc] at h1
        have hs : ∃ v, (fs[i].cells io ic bo bc)[j]? = some v := ⟨_, Array.getElem?_eq_getElem (by unfold Fm.cells; simpa using hj)⟩
        obtain ⟨v, hv⟩ := hs
        rw [hv] at h1 ⊢
        exact ((unhide HK).cell (World.block_lt_of_cell? _ _ h1) (fun t => t)).trans h1
      have HMK := hide (rmake_any wr ((unhide HT).later (unhide HK)) [] fs[i] io ic bo bc (hAt.later (unhide HK)))
      have HSN : Hid (sentF (fs.take (i + 1)) = sentF (fs.take i) ++ (makeF [] fs[i]).1) := hide (by unfold sentF; rw [List.take_succ_eq_append_getElem hil, List.flatMap_append, List.flatMap_singleton])
      have HLM := hide (unhide HM fs[i] (List.getElem_mem hil))
      have HLS : Hid ((sentF (fs.take i)).length ≤ 1000000 * i) := hide (sentF_le (unhide HM) i)
      generalize fs[i] = f at *
      obtain ⟨kd, ba, sq, its, bts⟩ := f
      have c0 : wr.cell? ⟨b, off + i * 5, none⟩ = some (.int .i64 kd) := hcw 0 (by omega)
      have c1 : wr.cell? ⟨b, off + i * 5 + 1, none⟩ = some (.int .i64 ba) := hcw 1 (by omega)
      have c2 : wr.cell? ⟨b, off + i * 5 + 2, none⟩ = some (.int .i64 sq) := hcw 2 (by omega)
      have c3 : wr.cell? ⟨b, off + i * 5 + 3, none⟩ = some (.slice io its.length ic) := hcw 3 (by omega)
      have c4 : wr.cell? ⟨b, off + i * 5 + 4, none⟩ = some (.slice bo bts.length bc) := hcw 4 (by omega)
      clear hc hcl hcw hAt
      generalize sentF (fs.take i) = sf at *
      generalize makeF [] ⟨kd, ba, sq, its, bts⟩ = mf at *
      go_wp2_with fail
      refine (unhide HMK).mono ?_
      rintro e w5 ⟨ao, cap, rfl, H5⟩
      have HF5 : Hid (Fr (fun _ => False) w w5) := hide ((unhide HK).trans (unhide H5).2 (fun _ _ t => t))
      obtain ⟨g, hR, hg⟩ := (unhide H5).1
      have hcv := conv_own hR
      have hsz : ¬ (sf.length + mf.1.length > 9223372036854775807) := by have := unhide HLM; have := unhide HLS; omega
      clear hR hg H5 HMK c0 c1 c2 c3 c4
      go_wp2
      exact ⟨⟨i + 1, by omega, by rw [unhide HSN]; congr 1, by go_num, HF5⟩, by simp [intOf]; omega⟩
    · obtain rfl : i = fs.length := by omega
      rw [List.take_length]
      go_wp2
      go_ret
      exact ⟨rfl, HK⟩

end Go.Proofs.YtabhfeocelljdaaGreatDoor

/- How LinkSends' script reads: items at each tick that were handed in. -/
namespace Go.Proofs.YtabhfeocelljdaaGreatDoor
open Go.ChangeShapes Go.WideShapes Go.ChangeAt Go.RowKit Go.Deep

theorem cells_item : Tryz.prog.cellsOf 47 = 2 := by kernel_rfl
theorem cells_items : Tryz.prog.cellsOf 45 = 1 := by kernel_rfl

/-- The items of one tick, as they were handed in. -/
structure TkA where
  io : Option Addr
  ic : Nat
  its : List Itm
structure TksAt (w : World) (ao : Option Addr) (ts : List TkA) : Prop where
  cells : 0 < ts.length → ∃ b off, ao = some ⟨b, off, none⟩ ∧ ∀ i (h : i < ts.length), w.cell? ⟨b, off + i, none⟩ = some (.slice ts[i].io ts[i].its.length ts[i].ic)
  each : ∀ t ∈ ts, ItsAt w t.io t.its
  few : ∀ t ∈ ts, t.its.length * 32 ≤ 140737488351232
  small : ts.length * 24 ≤ 140737488351232

section
variable {H : Type} {enc : TypeId × Value → H} {w : World} {held : Bool}

set_option maxRecDepth 20000 in
theorem part_item {fuel : Nat} {cs : List Value} {x : DataW H × List MemPlace} (h : DataW.trod enc Tryz.prog w 0 (fun _ => true) held fuel 47 cs = some x) (hw : ∀ n ∈ x.1.weights Tryz.prog 47, n ≤ reachBytes) :
    ∃ (q : Itm) (bo : Option Addr) (bc : Nat), cs = [.int .i64 q.seq, .slice bo q.bytes.length bc] ∧ BAt w bo bc q.bytes := by
  obtain ⟨xs, n, _, rfl, hl, hlen, hf⟩ := DataW.trod_struct Tryz.underlying47 h
  rw [cells_item] at hl
  have g0 := hf 0 _ rfl
  have g1 := hf 1 _ rfl
  match xs, hlen with
  | [y0, y1], _ =>
    simp only [List.getElem?_cons_zero, List.getElem?_cons_succ] at g0 g1
    have u1 := struct_weights Tryz.underlying47 hw (j := 1) (u := 23) (d := y1.1) rfl rfl
    obtain ⟨a0, e0, _, w0⟩ := DataW.trod_int Tryz.underlying3 g0
    match cs, hl with
    | [c0, c1], _ =>
      have f0 := one_of e0
      simp at f0
      subst f0
      have k1 : DataW.trod enc Tryz.prog w 0 (fun _ => true) held n 23 [c1] = some y1 := g1
      obtain ⟨bo, bl, bc, h2⟩ := slice_shape Tryz.underlying23 k1
      simp only [List.cons.injEq, and_true] at h2
      subst h2
      obtain ⟨bs, rfl, B1, B2, B3⟩ := part_bytes k1 u1
      exact ⟨⟨a0, bs⟩, bo, bc, rfl, B1⟩

theorem part_items {fuel : Nat} {a0 : Option Addr} {len cap : Nat} {x : DataW H × List MemPlace} (h : DataW.trod enc Tryz.prog w 0 (fun _ => true) held fuel 45 [.slice a0 len cap] = some x) (hw : ∀ n ∈ x.1.weights Tryz.prog 45, n ≤ reachBytes) :
    ∃ its : List Itm, its.length = len ∧ ItsAt w a0 its ∧ its.length * 32 ≤ 140737488351232 := by
  rcases open_slice Tryz.underlying45 h with ⟨hcs, hx⟩ | ⟨a, len', cap', m, n, D, Pla, hcs, hb, hl, hm, hmm, hx, hel⟩
  · simp at hcs
    obtain ⟨rfl, rfl, rfl⟩ := hcs
    exact ⟨[], rfl, ⟨fun h0 => absurd h0 (by simp), by simp⟩, by simp⟩
  · simp at hcs
    obtain ⟨rfl, rfl, rfl⟩ := hcs
    rw [cells_item] at hel
    have hmc : m = cap := by simpa using hmm
    have hby : Tryz.prog.bytesOf 47 = 32 := by kernel_rfl
    rw [hx] at hw
    obtain ⟨w1, w2⟩ := slice_weights Tryz.underlying45 hw
    rw [hby] at w1
    have hcap : len * 32 ≤ 140737488351232 := by
      simp at w1
      unfold reachBytes at w1
      omega
    obtain ⟨ps, hpl, hps⟩ := list_of (Good := fun j (q : Itm) => ∃ (bo : Option Addr) (bc : Nat), BAt w bo bc q.bytes ∧ w.cell? ((a.add (j * 2)).add 0) = some (.int .i64 q.seq) ∧ w.cell? ((a.add (j * 2)).add 1) = some (.slice bo q.bytes.length bc)) len (fun j hj => by
      obtain ⟨cs', h1, h2⟩ := hel j (by omega)
      obtain ⟨q, bo, bc, e1, e2⟩ := part_item h2 (w2 (D j) (by simp; exact ⟨j, hj, rfl⟩))
      obtain ⟨_, _, h4⟩ := World.cells?_some h1
      exact ⟨q, bo, bc, e2, by rw [h4 0 (by omega), e1]; rfl, by rw [h4 1 (by omega), e1]; rfl⟩)
    refine ⟨ps, hpl, ⟨fun h0 => ?_, by omega⟩, by omega⟩
    obtain ⟨b, off, spot⟩ := a
    obtain ⟨_, _, _, hc0, _⟩ := hps 0 h0
    have hspot : spot = none := by simpa [Addr.add] using World.cell?_spot hc0
    subst hspot
    refine ⟨b, off, rfl, fun j hj => ?_⟩
    obtain ⟨bo, bc, hB, hc, hd⟩ := hps j hj
    rw [Addr.add_lit, Addr.add_lit] at hc hd
    exact ⟨hc, bo, bc, hd, hB⟩

/-- Ticks that were handed in. -/
theorem arg_ticks {ts : List TypeId} {ds : List (DataW H)} {v : Value} {d : DataW H} {p : List MemPlace} {j : Nat} (hok : ∃ a len cap, v = .slice a len cap) (h : DataW.Trod enc Tryz.prog w 0 (fun _ => true) held 38 v d p)
    (hsz : (DataW.weightsEach Tryz.prog ts ds).all (· ≤ reachBytes) = true) (ht : ts[j]? = some 38) (hd : ds[j]? = some d) : ∃ ao cap ps, v = .slice ao (List.length ps) cap ∧ TksAt w ao ps := by
  obtain ⟨a0, len, cap, rfl⟩ := hok
  obtain ⟨fuel, hf⟩ := h
  have hw : ∀ n ∈ d.weights Tryz.prog 38, n ≤ reachBytes := fun n hn => of_decide_eq_true (List.all_eq_true.1 hsz _ (DataW.weights_mem_each ht hd n hn))
  have hf' : DataW.trod enc Tryz.prog w 0 (fun _ => true) held fuel 38 [.slice a0 len cap] = some (d, p) := hf
  rcases open_slice Tryz.underlying38 hf' with ⟨hcs, hx⟩ | ⟨a, len', cap', m, n, D, Pla, hcs, hb, hl, hm, hmm, hx, hel⟩
  · simp at hcs
    obtain ⟨rfl, rfl, rfl⟩ := hcs
    exact ⟨none, 0, [], rfl, ⟨fun h0 => absurd h0 (by simp), fun x hx => by (cases hx), fun x hx => by (cases hx), by simp⟩⟩
  · simp at hcs
    obtain ⟨rfl, rfl, rfl⟩ := hcs
    rw [cells_items] at hel
    have hmc : m = cap := by simpa using hmm
    have hby : Tryz.prog.bytesOf 45 = 24 := by kernel_rfl
    have hd' : d = .slice ((List.range len).map D) ((List.range (m - len)).map fun j => D (len + j)) := congrArg Prod.fst hx
    rw [hd'] at hw
    obtain ⟨w1, w2⟩ := slice_weights Tryz.underlying38 hw
    rw [hby] at w1
    have hcap : len * 24 ≤ 140737488351232 := by
      simp at w1
      unfold reachBytes at w1
      omega
    obtain ⟨ps, hpl, hps⟩ := list_of (Good := fun j (q : TkA) => (ItsAt w q.io q.its ∧ q.its.length * 32 ≤ 140737488351232) ∧ w.cell? (a.add j) = some (.slice q.io q.its.length q.ic)) len (fun j hj => by
      obtain ⟨cs', h1, h2⟩ := hel j (by omega)
      obtain ⟨ao, ln, cp, rfl⟩ := slice_shape Tryz.underlying45 h2
      obtain ⟨its, rfl, e2⟩ := part_items h2 (w2 (D j) (by simp; exact ⟨j, hj, rfl⟩))
      obtain ⟨_, _, h4⟩ := World.cells?_some h1
      refine ⟨⟨ao, cp, its⟩, e2, ?_⟩
      have h5 := h4 0 (by omega)
      simpa [Addr.add] using h5)
    refine ⟨some a, cap, ps, by rw [hpl], ⟨fun h0 => ?_, fun x hx => ?_, fun x hx => ?_, by omega⟩⟩
    · obtain ⟨b, off, spot⟩ := a
      obtain ⟨_, hc0⟩ := hps 0 h0
      have hspot : spot = none := by simpa [Addr.add] using World.cell?_spot hc0
      subst hspot
      refine ⟨b, off, rfl, fun j hj => ?_⟩
      have hc := (hps j hj).2
      rw [Addr.add_lit] at hc
      exact hc
    · obtain ⟨j, hj, rfl⟩ := List.mem_iff_getElem.1 hx
      exact (hps j hj).1.1
    · obtain ⟨j, hj, rfl⟩ := List.mem_iff_getElem.1 hx
      exact (hps j hj).1.2
end

end Go.Proofs.YtabhfeocelljdaaGreatDoor

/- LinkSends: items lent, and the memory of the walk. -/
namespace Go.Proofs.YtabhfeocelljdaaGreatDoor
open Go.RowKit Go.Maps

/-- An item lent: with the block of its bytes. -/
structure LtM where
  q : Itm
  g : Nat
def LtM.cells (x : LtM) : List Value := [.int .i64 x.q.seq, .slice (some ⟨x.g, 0, none⟩) x.q.bytes.length (x.q.bytes.length + 3)]
theorem flatL (xs : List LtM) : (xs.flatMap LtM.cells).length = xs.length * 2 := by
  induction xs with
  | nil => rfl
  | cons x r ih => simp only [List.flatMap_cons, List.length_append, List.length_cons] at *; rw [ih]; simp [LtM.cells]; omega
theorem flatL_get (xs : List LtM) : ∀ (i j : Nat) (x : LtM), xs[i]? = some x → j < 2 → (xs.flatMap LtM.cells)[i * 2 + j]? = x.cells[j]? := by
  induction xs with
  | nil => intro i j x h; simp at h
  | cons y r ih =>
    intro i j x h hj
    have hy : y.cells.length = 2 := rfl
    simp only [List.flatMap_cons]
    cases i with
    | zero =>
      have : y = x := by simpa using h
      subst this
      rw [List.getElem?_append_left (by omega)]
      congr 1; omega
    | succ i =>
      rw [List.getElem?_append_right (by omega)]
      rw [show (i + 1) * 2 + j - y.cells.length = i * 2 + j by omega]
      exact ih i j x (by simpa using h) hj

/-- Bytes lent lie in a block. -/
def LentAt (w : World) (bs : List UInt8) (g : Nat) : Prop := ∀ j, j < bs.length + 3 → w.cell? ⟨g, j, none⟩ = some (.int .u8 (lentF bs (bs.length + 3) j)) ∧ w.frozen? ⟨g, j, none⟩ = false
theorem LentAt.lt {w : World} {bs : List UInt8} {g : Nat} (h : LentAt w bs g) : g < w.heap.size := World.block_lt_of_cell? _ _ (h 0 (by omega)).1
theorem LentAt.frame {S : Nat → Prop} {w w' : World} {bs : List UInt8} {g : Nat} (h : LentAt w bs g) (k : Fr S w w') (hg : ¬ S g) : LentAt w' bs g := fun j hj =>
  ⟨(k.cell (a := ⟨g, j, none⟩) h.lt hg).trans (h j hj).1, (k.frozen (a := ⟨g, j, none⟩) h.lt hg).trans (h j hj).2⟩
theorem LentAt.bat {w : World} {bs : List UInt8} {g : Nat} (h : LentAt w bs g) (hs : bs.length ≤ 140737488355328) : BAt w (some ⟨g, 0, none⟩) (bs.length + 3) bs := by
  refine ⟨fun t => (by cases t), fun _ => ⟨g, 0, rfl, fun j hj => ?_⟩, hs⟩
  rw [Nat.zero_add, (h j (by omega)).1, lentF_in _ _ _ hj]

/-- Items lent, in memory that is new since M. -/
structure LL (M : Nat) (w : World) (io : Option Addr) (ic ib : Nat) (xs : List LtM) : Prop where
  row : KRow w io ic ib 2 (xs.flatMap LtM.cells)
  bk : 0 < ic → M ≤ ib
  it : ∀ x ∈ xs, M ≤ x.g ∧ (0 < ic → x.g ≠ ib) ∧ LentAt w x.q.bytes x.g ∧ x.q.bytes.length ≤ 140737488355328
  ap : xs.Pairwise (fun x y => x.g ≠ y.g)
theorem LL.nil (M : Nat) (w : World) (ib : Nat) : LL M w none 0 ib [] := ⟨KRow.nil _ _ _, fun h => absurd h (by omega), fun x h => by (cases h), List.Pairwise.nil⟩
theorem LL.frame {S : Nat → Prop} {M : Nat} {w w' : World} {io : Option Addr} {ic ib : Nat} {xs : List LtM} (h : LL M w io ic ib xs) (k : Fr S w w') (hS : ∀ i, S i → i < M) : LL M w' io ic ib xs :=
  ⟨h.row.stay (fun hc => k.block ib (h.row.lt (by omega) hc) (fun t => by have := hS _ t; have := h.bk hc; omega)), h.bk, fun x hx => by
    obtain ⟨a1, a2, a3, a4⟩ := h.it x hx
    exact ⟨a1, a2, a3.frame k (fun t => by have := hS _ t; omega), a4⟩, h.ap⟩
theorem LL.keep {M : Nat} {w w' : World} {io : Option Addr} {ic ib : Nat} {xs : List LtM} (h : LL M w io ic ib xs) (k : Fr (fun _ => False) w w') : LL M w' io ic ib xs := h.frame k (fun _ t => t.elim)
theorem LL.next {M : Nat} {w w1 w2 : World} {io io' : Option Addr} {ic ib ic' ib' : Nat} {xs : List LtM} (h : LL M w io ic ib xs) (hM : M ≤ w.heap.size) {q : Itm} {g : Nat} (f1 : Fr (fun _ => False) w w1) (hg : w.heap.size ≤ g) (hl : LentAt w1 q.bytes g) (hs : q.bytes.length ≤ 140737488355328)
    (k1 : KRow w2 io' ic' ib' 2 (xs.flatMap LtM.cells ++ [.int .i64 q.seq, .slice (some ⟨g, 0, none⟩) q.bytes.length (q.bytes.length + 3)])) (k2 : Grew w1 ib ic w2 ib' ic') : LL M w2 io' ic' ib' (xs ++ [⟨q, g⟩]) := by
  have hf := k2.frZ
  have hg1 := hl.lt
  have hz1 := f1.size
  refine ⟨by rw [List.flatMap_append, List.flatMap_singleton]; exact k1, fun hc => ?_, fun x hx => ?_, ?_⟩
  · rcases k2 with ⟨e1, e2, _⟩ | ⟨e1, _, _⟩
    · rw [e1]; exact h.bk (by omega)
    · omega
  · rcases List.mem_append.1 hx with hx | hx
    · obtain ⟨a1, a2, a3, a4⟩ := h.it x hx
      have hxl := a3.lt
      refine ⟨a1, fun hc => ?_, (a3.frame f1 (fun t => t)).frame hf (fun t => a2 t.2 t.1), a4⟩
      rcases k2 with ⟨e1, e2, _⟩ | ⟨e1, _, _⟩
      · rw [e1]; exact a2 (by omega)
      · omega
    · rw [List.mem_singleton] at hx
      subst hx
      refine ⟨by show M ≤ g; omega, fun hc => ?_, hl.frame hf (fun t => by have := h.row.lt (by omega) t.2; omega), hs⟩
      show g ≠ ib'
      rcases k2 with ⟨e1, e2, _⟩ | ⟨e1, _, _⟩
      · have := h.row.lt (by omega) (show 0 < ic by omega); omega
      · omega
  · rw [List.pairwise_append]
    refine ⟨h.ap, List.pairwise_singleton _ _, fun a ha b hb => ?_⟩
    rw [List.mem_singleton] at hb
    subst hb
    have := (h.it a ha).2.2.1.lt
    show a.g ≠ g
    omega
/-- What they say. -/
theorem LL.at_ {M : Nat} {w : World} {io : Option Addr} {ic ib : Nat} {xs : List LtM} (h : LL M w io ic ib xs) (i : Nat) (x : LtM) (hi : xs[i]? = some x) : io = some ⟨ib, 0, none⟩ ∧ w.cell? ⟨ib, i * 2, none⟩ = some (.int .i64 x.q.seq) ∧ w.cell? ⟨ib, i * 2 + 1, none⟩ = some (.slice (some ⟨x.g, 0, none⟩) x.q.bytes.length (x.q.bytes.length + 3)) := by
  have hil := (List.getElem?_eq_some_iff.1 hi).1
  have hle := h.row.le
  rw [flatL] at hle
  have hg : ∀ j, j < 2 → w.cell? ⟨ib, i * 2 + j, none⟩ = x.cells[j]? := fun j hj => by
    have hlt : i * 2 + j < (xs.flatMap LtM.cells).length := by rw [flatL]; omega
    rw [h.row.cells _ hlt, ← List.getElem?_eq_getElem hlt]
    exact flatL_get xs i j _ hi hj
  exact ⟨h.row.ad (by omega), hg 0 (by omega), hg 1 (by omega)⟩
theorem LL.its {M : Nat} {w : World} {io : Option Addr} {ic ib : Nat} {xs : List LtM} (h : LL M w io ic ib xs) (hs : xs.length ≤ 140737488355328) : ItsAt w io (xs.map LtM.q) := by
  refine ⟨fun h0 => ?_, by rw [List.length_map]; exact hs⟩
  rw [List.length_map] at h0
  refine ⟨ib, 0, (h.at_ 0 _ (List.getElem?_eq_getElem h0)).1, fun i hi => ?_⟩
  have hi' : i < xs.length := by rw [List.length_map] at hi; exact hi
  obtain ⟨_, a2, a3⟩ := h.at_ i _ (List.getElem?_eq_getElem hi')
  obtain ⟨_, _, b3, b4⟩ := h.it _ (List.getElem_mem hi')
  simp only [List.getElem_map, Nat.zero_add]
  exact ⟨a2, _, _, a3, b3.bat b4⟩
theorem LL.room {M : Nat} {w : World} {io : Option Addr} {ic ib : Nat} {xs : List LtM} (h : LL M w io ic ib xs) : xs.length ≤ ic := by
  have hle := h.row.le
  rw [flatL] at hle
  omega

/-- Both senders, between two ticks. -/
structure TW (W : World) (p b X : Nat) (s d : Snd) (so : Option Addr) (sc sb : Nat) (n : Nat) (wr : World) : Prop where
  fr : Fr (fun _ => False) W wr
  sn : SN wr p b s
  ds : DS wr X d so sc sb
  al : Alike s d
  ks : SentOk s.sent s.clk
  kd : SentOk d.sent d.clk
  ck : s.clk = n
  lo : W.heap.size ≤ p ∧ W.heap.size ≤ b ∧ W.heap.size ≤ X
  ne : p ≠ X ∧ b ≠ X ∧ (0 < sc → W.heap.size ≤ sb ∧ sb ≠ p ∧ sb ≠ b)
theorem TW.keep {W : World} {p b X : Nat} {s d : Snd} {so : Option Addr} {sc sb n : Nat} {wr w' : World} (h : TW W p b X s d so sc sb n wr) {S : Nat → Prop} (k : Fr S wr w') (hS : ∀ i, i < wr.heap.size → ¬ S i) : TW W p b X s d so sc sb n w' :=
  ⟨h.fr.trans k (fun i hi t => hS i (by have := h.fr.size; omega) t), h.sn.frame k (hS _ h.sn.bx.lt) (hS _ h.sn.mp.lt), h.ds.frame k (hS _ h.ds.bx.lt) (fun hc => hS _ (h.ds.row.lt (by omega) hc)), h.al, h.ks, h.kd, h.ck, h.lo, h.ne⟩

end Go.Proofs.YtabhfeocelljdaaGreatDoor

/- LinkSends: what lies in memory behind both ticks. -/
namespace Go.Proofs.YtabhfeocelljdaaGreatDoor
open Go.RowKit Go.Maps

/-- Rows of one's own, each in a block of its own, may be handed to Owned. -/
theorem IL.handedS {M : Nat} {wk : World} {io : Option Addr} {ic ib : Nat} {ds : List RD} {its : List (List UInt8)} (h : IL M wk io ic ib ds its) (hN : its.length ≤ 1048576) (hl : ∀ b ∈ its, b.length ≤ 1048576) : Handed wk ib its.length (fun j => ds.getD j ⟨none, 0, 0, 0⟩) := by
  have hg : ∀ j (hj : j < its.length), ds.getD j ⟨none, 0, 0, 0⟩ = ds[j]'(by rw [h.n1]; exact hj) := fun j hj => by
    rw [List.getD_eq_getElem?_getD, List.getElem?_eq_getElem (by rw [h.n1]; exact hj)]
    rfl
  have hle := h.row.le
  rw [List.length_map, h.n1] at hle
  have hit : ∀ j (hj : j < its.length), Row wk (ds[j]'(by rw [h.n1]; exact hj)).val (ds[j]'(by rw [h.n1]; exact hj)).g its[j] ∧ (ds[j]'(by rw [h.n1]; exact hj)).n = its[j].length ∧ (0 < (ds[j]'(by rw [h.n1]; exact hj)).cap → M ≤ (ds[j]'(by rw [h.n1]; exact hj)).g ∧ (0 < ic → (ds[j]'(by rw [h.n1]; exact hj)).g ≠ ib)) := fun j hj => h.it j _ _ (List.getElem?_eq_getElem (by rw [h.n1]; exact hj)) (List.getElem?_eq_getElem hj)
  refine ⟨fun j hj => ?_, fun j hj => ?_, fun j k hj hk hne hc1 hc2 => ?_, fun j hj hc => ?_, fun j hj => ?_, hN⟩
  · have hv := h.row.cells j (by rw [List.length_map, h.n1]; exact hj)
    rw [hg j hj, hv, List.getElem_map]
  · rw [hg j hj]
    obtain ⟨r1, r2, r3⟩ := hit j hj
    generalize ds[j]'(by rw [h.n1]; exact hj) = d at *
    obtain ⟨ao, m, cap, g⟩ := d
    have r2 : m = its[j].length := r2
    subst r2
    exact Row.own r1
  · rw [hg j hj] at hc1
    rw [hg k hk] at hc2
    rw [hg j hj, hg k hk]
    have hp := List.pairwise_iff_getElem.1 h.up
    rcases Nat.lt_or_gt_of_ne hne with t | t
    · have := hp j k (by rw [h.n1]; exact hj) (by rw [h.n1]; exact hk) t hc1 hc2
      omega
    · have := hp k j (by rw [h.n1]; exact hk) (by rw [h.n1]; exact hj) t hc2 hc1
      omega
  · rw [hg j hj] at hc ⊢
    exact ((hit j hj).2.2 hc).2 (by omega)
  · rw [hg j hj, (hit j hj).2.1]
    have := hl its[j] (List.getElem_mem hj)
    omega


/-- Behind both ticks: those of the frames from place k on have not been written over. -/
structure TG (W : World) (p b X : Nat) (s d : Snd) (so : Option Addr) (sc sb n : Nat) (M : Nat) (fo : Option Addr) (fc fb : Nat) (fx : List FrM) (k : Nat) (wr : World) : Prop where
  tw : TW W p b X s d so sc sb n wr
  row : KRow wr fo fc fb 5 (fx.flatMap FrM.cells)
  ok : ∀ (i : Nat) (x : FrM), k ≤ i → fx[i]? = some x → x.Ok wr
  lw : ∀ x ∈ fx, M ≤ x.lo
  ord : fx.Pairwise (fun x y => x.hi ≤ y.lo)
  bk : 0 < fc → ∀ x ∈ fx, fb < x.lo ∨ x.hi ≤ fb
  lt : p < M ∧ b < M ∧ X < M ∧ W.heap.size ≤ M
  sb : 0 < sc → ∀ x ∈ fx, sb < x.lo ∨ x.hi ≤ sb
theorem TG.keep {W : World} {p b X : Nat} {s d : Snd} {so : Option Addr} {sc sb n M : Nat} {fo : Option Addr} {fc fb : Nat} {fx : List FrM} {k : Nat} {wr w' : World} (h : TG W p b X s d so sc sb n M fo fc fb fx k wr) (f : Fr (fun _ => False) wr w') : TG W p b X s d so sc sb n M fo fc fb fx k w' :=
  ⟨h.tw.keep f (fun _ _ t => t), h.row.keep (by omega) f, fun i x hi hx => (h.ok i x hi hx).frame f (fun _ t => t.elim), h.lw, h.ord, h.bk, h.lt, h.sb⟩
theorem TG.at_ {W : World} {p b X : Nat} {s d : Snd} {so : Option Addr} {sc sb n M : Nat} {fo : Option Addr} {fc fb : Nat} {fx : List FrM} {k : Nat} {wr : World} (h : TG W p b X s d so sc sb n M fo fc fb fx k wr) (i : Nat) (x : FrM) (hi : fx[i]? = some x) : fo = some ⟨fb, 0, none⟩ ∧ ∀ j, j < 5 → wr.cell? ⟨fb, i * 5 + j, none⟩ = x.cells[j]? := by
  have hil := (List.getElem?_eq_some_iff.1 hi).1
  have hle := h.row.le
  rw [flat5] at hle
  refine ⟨h.row.ad (by omega), fun j hj => ?_⟩
  have hlt : i * 5 + j < (fx.flatMap FrM.cells).length := by rw [flat5]; omega
  rw [h.row.cells _ hlt, ← List.getElem?_eq_getElem hlt]
  exact flat5_get fx i j _ hi hj
theorem TG.own {W : World} {p b X : Nat} {s d : Snd} {so : Option Addr} {sc sb n M : Nat} {fo : Option Addr} {fc fb : Nat} {fx : List FrM} {k : Nat} {wr w' : World} (h : TG W p b X s d so sc sb n M fo fc fb fx k wr) (x : FrM) (hx : fx[k]? = some x) (f : Fr (fun q => ∃ j, j < x.f.items.length ∧ 0 < (x.ds.getD j ⟨none, 0, 0, 0⟩).cap ∧ q = (x.ds.getD j ⟨none, 0, 0, 0⟩).g) wr w') : TG W p b X s d so sc sb n M fo fc fb fx (k + 1) w' := by
  have hok := h.ok k x (Nat.le_refl _) hx
  have hxm : x ∈ fx := List.mem_of_getElem? hx
  have hS : ∀ q, (∃ j, j < x.f.items.length ∧ 0 < (x.ds.getD j ⟨none, 0, 0, 0⟩).cap ∧ q = (x.ds.getD j ⟨none, 0, 0, 0⟩).g) → x.lo ≤ q ∧ q < x.hi := by
    rintro q ⟨j, hj, hc, rfl⟩
    have hj' : j < x.ds.length := by rw [hok.il.n1]; exact hj
    have hg : x.ds.getD j ⟨none, 0, 0, 0⟩ = x.ds[j] := by
      rw [List.getD_eq_getElem?_getD, List.getElem?_eq_getElem hj']
      rfl
    rw [hg] at hc ⊢
    exact ⟨(hok.il.in' (List.getElem_mem hj') hc).1, hok.b2 _ (List.getElem_mem hj') hc⟩
  have f2 : Fr (fun q => x.lo ≤ q ∧ q < x.hi) wr w' := f.mono (fun q _ t => hS q t)
  have hM := h.lw x hxm
  obtain ⟨l1, l2, l3, l4⟩ := h.lt
  refine ⟨⟨h.tw.fr.trans f2 (fun i hi t => by have t : x.lo ≤ i ∧ i < x.hi := t; omega), h.tw.sn.frame f2 (fun t => by have t : x.lo ≤ p ∧ p < x.hi := t; omega) (fun t => by have t : x.lo ≤ b ∧ b < x.hi := t; omega), h.tw.ds.frame f2 (fun t => by have t : x.lo ≤ X ∧ X < x.hi := t; omega) (fun hc t => by have t : x.lo ≤ sb ∧ sb < x.hi := t; have := h.sb hc x hxm; omega), h.tw.al, h.tw.ks, h.tw.kd, h.tw.ck, h.tw.lo, h.tw.ne⟩, h.row.stay (fun hc => f2.block fb (h.row.lt (by omega) hc) (fun t => by have t : x.lo ≤ fb ∧ fb < x.hi := t; have := h.bk hc x hxm; omega)), fun i y hi hy => ?_, h.lw, h.ord, h.bk, h.lt, h.sb⟩
  refine (h.ok i y (by omega) hy).frame f2 (fun q t => ?_)
  have t : x.lo ≤ q ∧ q < x.hi := t
  obtain ⟨i1, e1⟩ := List.getElem?_eq_some_iff.1 hx
  obtain ⟨i2, e2⟩ := List.getElem?_eq_some_iff.1 hy
  have := List.pairwise_iff_getElem.1 h.ord k i i1 i2 (by omega)
  rw [e1, e2] at this
  omega

/-- What the ticks make of it. -/
theorem TW.ticked {W : World} {p b X : Nat} {s d : Snd} {so : Option Addr} {sc sb n : Nat} {w0 : World} (h : TW W p b X s d so sc sb n w0) {w1 w2 w3 w4 : World} {S : Nat → Prop} (its : List Itm) (k1 : Fr (fun _ => False) w0 w1) (k2 : Fr (fun k => k = p ∨ k = b) w1 w2) (hsn : SN w2 p b (tickF s its).1) {fo : Option Addr} {fc fb : Nat} {fx : List FrM} (hfl : FL w1.heap.size w2 fo fc fb fx)
    (k3 : Fr S w2 w3) (hS : ∀ i, S i → w0.heap.size ≤ i ∧ i < w1.heap.size) (k4 : Fr (fun k => k = X) w3 w4) {so' : Option Addr} {sc' sb' : Nat} (hds : DS w4 X (tickD d its).1 so' sc' sb') (hno : NewOr w3.heap.size sc' sb' sc sb) :
    TG W p b X (tickF s its).1 (tickD d its).1 so' sc' sb' (n + 1) w1.heap.size fo fc fb fx 0 w4 ∧ FL w1.heap.size w4 fo fc fb fx := by
  have z0 := h.fr.size
  have z1 := k1.size
  have z2 := k2.size
  have z3 := k3.size
  have z4 := k4.size
  obtain ⟨l1, l2, l3⟩ := h.lo
  obtain ⟨n1, n2, n3⟩ := h.ne
  have p1 := h.sn.bx.lt
  have p2 := h.sn.mp.lt
  have p3 := h.ds.bx.lt
  have hf3 : FL w1.heap.size w3 fo fc fb fx := hfl.frame k3 (fun i t => (hS i t).2)
  have hf4 : FL w1.heap.size w4 fo fc fb fx := hf3.frame k4 (fun i t => by have t : i = X := t; omega)
  have hal := tick_alike h.al h.sn.bat.1 h.sn.evy.1 its
  have hks := tickF_sent h.ks h.sn.clk.1 its
  have hkd := tickD_sent h.kd (by rw [h.al.clk]; exact h.sn.clk.1) its
  have hnew : 0 < sc' → (w3.heap.size ≤ sb') ∨ (0 < sc ∧ sb' = sb ∧ sb < w0.heap.size) := fun hc => by
    rcases hno hc with t | ⟨t1, t2⟩
    · exact .inl t
    · exact .inr ⟨by omega, t2, h.ds.row.lt (by omega) (by omega)⟩
  refine ⟨⟨⟨((((h.fr.trans k1 (fun _ _ t => t)).trans k2 (fun i hi t => by have t : i = p ∨ i = b := t; omega)).trans k3 (fun i hi t => by have := hS i t; omega)).trans k4 (fun i hi t => by have t : i = X := t; omega)), (hsn.frame k3 (fun t => by have := hS _ t; omega) (fun t => by have := hS _ t; omega)).frame k4 (fun t => n1 t) (fun t => n2 t), hds, hal.1, hks.1, hkd.1, by rw [hks.2.1, h.ck]; omega, h.lo, ⟨n1, n2, fun hc => ?_⟩⟩, hf4.row, fun i x _ hx => hf4.ok x (List.mem_of_getElem? hx), hf4.lw, hf4.ord, fun hc x hx => (hf4.bk hc).2 x hx, by omega, fun hc x hx => ?_⟩, hf4⟩
  · rcases hnew hc with t | ⟨t1, t2, t3⟩
    · omega
    · have := n3 t1
      omega
  · have a1 := (hfl.ok x hx).hs
    have a2 := hfl.lw x hx
    rcases hnew hc with t | ⟨t1, t2, t3⟩
    · exact .inr (by omega)
    · exact .inl (by omega)

/-- The document's sender may go on. -/
theorem TW.sok {W : World} {p b X : Nat} {s d : Snd} {so : Option Addr} {sc sb n : Nat} {w0 : World} (h : TW W p b X s d so sc sb n w0) (hn : n ≤ 140737488355328) : SOk d :=
  ⟨by rw [h.al.win]; exact h.sn.win, by rw [h.al.bat]; exact h.sn.bat, by rw [h.al.evy]; exact h.sn.evy, by rw [h.al.clk, h.ck]; omega, fun e he => (h.kd e he).2, by have := h.al.ud.few (fun e he => (h.kd e he).1); omega⟩
theorem TW.few {W : World} {p b X : Nat} {s d : Snd} {so : Option Addr} {sc sb n : Nat} {w0 : World} (h : TW W p b X s d so sc sb n w0) : s.sent.length ≤ 1099511627776 := by
  have := h.al.us.few (fun e he => (h.ks e he).1)
  omega

end Go.Proofs.YtabhfeocelljdaaGreatDoor

