import Derived.Test.YtjkghgcdkfkekaaGreatDoorQXB
/- Contract: a row's records. -/
namespace Go.Proofs.YtjkghgcdkfkekaaGreatDoor
open Go.RowKit

/-- An append whose run is known, as one step of a list of operations. -/
theorem wpList_append_known' (w : World) {ops : Array Oper} {rest : List Oper} {o : Oper} {a : Act} {Q : Exit → Act → World → Prop} (hgd : o.guard = none) (s x : Operand) (t tx : TypeId)
    (ho : o.op = .call { callee := .builtin .append, args := #[s, x], argTypes := #[t, tx] }) {sv xv v : Value} {w' : World} (hv : a.eval s = sv) (hx : a.eval x = xv) (hrun : (Builtin.append_ #[t, tx] o.type #[sv, xv]).run Tryz.prog w = .ok v w')
    (hK : wpList Tryz.prog ops Q rest (a.put o.dst v) w') : wpList Tryz.prog ops Q (o :: rest) a w := by
  refine wpList_plain hgd fun K hK' => ?_
  unfold Oper.wp
  simp [execOp, ho, resolve, invoke, builtin, hv, hx, hrun, Result.andThen]
  exact hK' _ _ hK

/-- One value, just laid as a row. -/
theorem its_one (E : Nat → Prop) (w : World) (ro : Option Addr) (rc : Nat) (b : Bs) (h : IEl E w (.slice ro b.length rc) b) : Its E (w.alloc (.cells #[.slice ro b.length rc] 28)) (some ⟨w.heap.size, 0, none⟩) 1 w.heap.size 0 [b] := by
  have hb := Bx.new w #[.slice ro b.length rc] 28
  refine ⟨[.slice ro b.length rc], ⟨Nat.le_refl _, by decide, fun _ => rfl, fun j hj => ?_, fun j hj => ?_, fun u hu => by simp at hu; subst hu; rfl⟩, rfl, fun i h1 h2 => ?_⟩
  · obtain rfl : j = 0 := by omega
    exact ⟨by rw [hb.cell]; rfl, hb.frozen _⟩
  · have hj' : j < 1 := hj
    obtain rfl : j = 0 := by omega
    rw [hb.cell]; rfl
  · have h1' : i < 1 := h1
    obtain rfl : i = 0 := by omega
    exact h.frame ((Fr.refl (fun _ => False) w).alloc _) (fun _ _ t => t)

theorem row_iel {w : World} {ro : Option Addr} {n rc g : Nat} {b : Bs} (h : Row w (.slice ro n rc) g b) (hl : b.length ≤ 140737488355328) {E : Nat → Prop} (hE : E g) : n = b.length ∧ IEl E w (.slice ro b.length rc) b := by
  have hb := h.bat hl
  refine ⟨hb.1, ro, rc, rfl, hb.2, fun k off h0 e => ?_⟩
  obtain ⟨ao, cap, e1, q1, q2, q3, q4⟩ := h.shape
  injection e1 with e1 e2 e3
  subst e1 e3
  rw [q3 (by omega)] at e
  injection e with e
  injection e with e1 e2
  rw [← e1]; exact hE

theorem row_lt {w : World} {v : Value} {g : Nat} {b : Bs} (h : Row w v g b) (h0 : 0 < b.length) : g < w.heap.size := World.block_lt_of_cell? _ _ (h.cells 0 h0)

/-- What the loop of records holds. -/
def RcS (w wr : World) (a n : Nat) (io : Option Addr) (ic : Nat) (ro : Option Addr) (rc g off : Nat) (rs : List Bs) : Prop :=
  Fr (fun _ => False) w wr ∧ Its (fun k => w.heap.size ≤ k ∧ k ≠ g) wr ro rc g off rs ∧ w.heap.size < g ∧ Bx wr w.heap.size #[.int .i64 (a : Int), .slice io n ic] 118

set_option maxHeartbeats 1000000 in
set_option maxRecDepth 20000 in
theorem qrecs_any (w : World) (E : Nat → Prop) (a : Nat) (io : Option Addr) (cap g off : Nat) (l : List Bs) (hI : Its E w io cap g off l) (ha : a + l.length ≤ 4294967295) (hit : ∀ b ∈ l, b.length ≤ 256) :
    Calls Tryz.prog 106 #[.agg #[.int .i64 (a : Int), .slice io l.length cap]] w fun e w' => ∃ ro rc, e = .returned (.slice ro (qrecs ⟨a, l⟩).length rc) ∧ RecsP (fun k => w.heap.size ≤ k) w' ro rc (qrecs ⟨a, l⟩) ∧ Fr (fun _ => False) w w' := by
  have HH := hide (And.intro hI (And.intro ha hit))
  have haI : (a : Int) + (l.length : Int) ≤ 4294967295 := by omega
  obtain ⟨n, hn⟩ : ∃ n, n = l.length := ⟨_, rfl⟩
  have HN := hide hn
  rw [← hn] at haI ⊢
  clear hI ha hit hn
  go_enter Tryz.func106, Tryz.ntmps106
  go_wp2_with fail
  have hF0 : Fr (fun _ => False) w (w.alloc (.cells #[.int .i64 (a : Int), .slice io n cap] 118)) := (Fr.refl _ _).alloc _
  have b0 := Bx.new w #[.int .i64 (a : Int), .slice io n cap] 118
  have hz0 : (w.alloc (.cells #[.int .i64 (a : Int), .slice io n cap] 118)).heap.size = w.heap.size + 1 := by simp
  generalize w.alloc (.cells #[.int .i64 (a : Int), .slice io n cap] 118) = w0 at *
  have R1 := qrecord_any w0 1 a (by omega) (by have := (unhide HH).2.1; omega) none 0 [] ⟨fun _ => ⟨rfl, rfl⟩, fun h => absurd h (by simp), by simp⟩ (by simp)
  refine R1.mono ?_
  clear R1
  rintro e w1 ⟨v, g1, rfl, hrow, hF1, hg1⟩
  obtain ⟨vo, vc, rfl, hjk⟩ := hrow.shape
  clear hjk
  have hg1l : g1 < w1.heap.size := row_lt hrow (by have := raw_ge ⟨1, a, []⟩; exact Nat.lt_of_lt_of_le (by omega) this)
  have hi1 := (row_iel (E := fun k => w.heap.size ≤ k ∧ k ≠ w1.heap.size) hrow (by have := raw_len 1 a [] (by simp); omega) ⟨by omega, by omega⟩).2
  have H1 := hide (And.intro hi1 (And.intro (hF0.trans hF1 (fun _ _ t => t)) (b0.keep hF1)))
  have c1 : w1.cell? ⟨w.heap.size, 1, none⟩ = some (.slice io n cap) := (b0.keep hF1).cell 1
  have hwl : w.heap.size < w1.heap.size := (b0.keep hF1).lt
  have hwn : w.heap.size ≠ w1.heap.size := by omega
  clear hi1 hrow hF0 hF1 hg1 b0 hg1l
  have c1' : (w1.alloc (.cells #[.slice vo (qraw 1 a []).length vc] 28)).cell? ⟨w.heap.size, 1, none⟩ = some (.slice io n cap) := Go.Lib.cell?_alloc_some _ c1
  go_wp2
  have hls : (qraw 1 a []).length = 9 := by rw [qraw, if_neg (by decide), qhead_length]
  have H2 : Hid (RcS w (w1.alloc (.cells #[.slice vo (qraw 1 a []).length vc] 28)) a n io cap (some ⟨w1.heap.size, 0, none⟩) 1 w1.heap.size 0 (qraw 1 a [] :: qputs a (l.take 0))) := by
    obtain ⟨hi1, hF, hb⟩ := unhide H1
    exact hide ⟨hF.alloc _, its_one _ _ _ _ _ hi1, by have := hb.lt; omega, hb.alloc _⟩
  clear H1 hls hz0
  generalize w1.alloc (.cells #[.slice vo (qraw 1 a []).length vc] 28) = w2 at *
  go_loopw [3, 14] (fun lv iv wr => ∃ i : Nat, i ≤ n ∧ iv = .int .i64 i ∧ ∃ ro rc g' off', lv = .slice ro (i + 1) rc ∧ Hid (RcS w wr a n io cap ro rc g' off' (qraw 1 a [] :: qputs a (l.take i)))) (fun _ iv _ => n - (intOf iv).toNat)
  case atStart => exact ⟨0, Nat.zero_le _, rfl, _, _, _, _, rfl, H2⟩
  case round =>
    obtain ⟨i, hi, rfl, ro, rc, g', off', rfl, HR⟩ := hrel
    clear H2
    by_cases hlt : i < n
    · obtain ⟨hI, ha, hit⟩ := unhide HH
      obtain ⟨hF, hIt, hg, hb⟩ := unhide HR
      have hnl := unhide HN
      obtain ⟨vs, q1, q2, q3⟩ := (hI.keep hF).ex
      have hle := q1.le
      have eio := q1.ad (by omega)
      obtain ⟨xo, xc, ex, hxb, hxe⟩ := q3 i (by omega) (by omega)
      have cx : wr.cell? ⟨g, off + i, none⟩ = some (.slice xo (l[i]'(by omega)).length xc) := by rw [q1.cells i (by omega), ex]
      have hxl := hit (l[i]'(by omega)) (List.getElem_mem _)
      have c0 : wr.cell? ⟨w.heap.size, 0, none⟩ = some (.int .i64 (a : Int)) := hb.cell 0
      subst eio
      obtain ⟨X, hX⟩ : ∃ X, X = l[i]'(by omega) := ⟨_, rfl⟩
      rw [← hX] at cx hxb hxl
      have htk : l.take (i + 1) = l.take i ++ [X] := by rw [hX]; exact List.take_succ_eq_append_getElem (by omega)
      have hti : (l.take i).length = i := by simp; omega
      have hps : qputs a (l.take (i + 1)) = qputs a (l.take i) ++ [qraw 2 (a + 1 + i) X] := by rw [htk, qputs_snoc, hti, show a + i + 1 = a + 1 + i by omega]
      have R2 := qrecord_any wr 2 (a + 1 + i) (by omega) (by omega) xo xc X hxb (by omega)
      have hsI : ((a + 1 + i : Nat) : Int) = (a : Int) + 1 + (i : Int) := by omega
      rw [hsI] at R2
      have hiI : (i : Int) < (n : Int) := by omega
      have haI2 : (a : Int) + 1 + (i : Int) ≤ 4294967295 := by omega
      have hql : (qraw 1 a [] :: qputs a (l.take i)).length = i + 1 := by simp [qputs_length, hti]
      have HX := hide (And.intro R2 (And.intro hps (And.intro hql (And.intro hlt hxl))))
      clear hI ha hit hF hIt hg hb q1 q2 q3 hle ex hxe hxb hX htk hti hps R2 hsI hql hnl hxl
      go_wp2_with fail
      refine (unhide HX).1.mono ?_
      rintro e w3 ⟨v, g3, rfl, hrow, hF3, hg3⟩
      obtain ⟨zo, zc, rfl, hjk⟩ := hrow.shape
      clear hjk
      obtain ⟨ao', cap', w', gg, offg, hrun, r1, r2, r3, r4⟩ : ∃ ao' cap' w' gg offg, (Builtin.append_ #[23, 23] 23 #[.slice ro (i + 1) rc, .slice (some ⟨w3.heap.size, 0, none⟩) 1 1]).run Tryz.prog (w3.alloc (.cells #[.slice zo (qraw 2 (a + 1 + i) X).length zc] 28)) = .ok (.slice ao' (i + 1 + 1) cap') w' ∧ Its (fun k => w.heap.size ≤ k ∧ k ≠ g' ∧ k < w3.heap.size) w' ao' cap' gg offg (qraw 1 a [] :: qputs a (l.take (i + 1))) ∧ Fr (fun k => k = g' ∧ 0 < rc) (w3.alloc (.cells #[.slice zo (qraw 2 (a + 1 + i) X).length zc] 28)) w' ∧ ((gg = g' ∧ cap' = rc) ∨ w3.heap.size ≤ gg) ∧ w3.heap.size ≤ w'.heap.size := by
        obtain ⟨_, hps, hql, hlt, hxl⟩ := unhide HX
        obtain ⟨hF, hIt, hg, hb⟩ := unhide HR
        have hFr : Fr (fun _ => False) wr (w3.alloc (.cells #[.slice zo (qraw 2 (a + 1 + i) X).length zc] 28)) := hF3.alloc _
        have hgl : 0 < rc → g' < wr.heap.size := fun hc => hIt.lt hc
        have h0 : 0 < (qraw 2 (a + 1 + i) X).length := Nat.lt_of_lt_of_le (by omega) (raw_ge ⟨2, a + 1 + i, X⟩)
        have hne : g3 ≠ g' := by
          have h1 := hIt.le
          rw [hql] at h1
          have := hgl (by omega)
          omega
        have hel := (row_iel (E := fun k => w.heap.size ≤ k ∧ k ≠ g' ∧ k < w3.heap.size) hrow (by have := raw_len 2 (a + 1 + i) X (by omega); omega) ⟨by have := hF.size; omega, hne, row_lt hrow h0⟩).2
        have hsrc : Src Tryz.prog 1 23 (.slice (some ⟨w3.heap.size, 0, none⟩) 1 1) 1 [.slice zo (qraw 2 (a + 1 + i) X).length zc] (w3.alloc (.cells #[.slice zo (qraw 2 (a + 1 + i) X).length zc] 28)) :=
          src_one (P := Tryz.prog) w3 [.slice zo (qraw 2 (a + 1 + i) X).length zc] 23 28 1 Tryz.underlying23 rfl (fun u hu => by simp at hu; subst hu; rfl) (fun j => ((Bx.new w3 #[.slice zo (qraw 2 (a + 1 + i) X).length zc] 28).cell j).trans (by simp))
        have hIt2 := hIt.mono (E' := fun k => w.heap.size ≤ k ∧ k ≠ g' ∧ k < w3.heap.size) (fun k hk t => ⟨t.1, t.2, Nat.lt_of_lt_of_le hk hF3.size⟩)
        have hap := append_its (hIt2.keep hFr) (fun _ t => t.2.1 rfl) _ _ (qraw 2 (a + 1 + i) X) (hel.frame ((Fr.refl (fun _ => False) _).alloc _) (fun _ _ t => t)) hsrc (by rw [hql]; have := (unhide HH).2.1; omega) 23
        rw [hql] at hap
        obtain ⟨ao', cap', w', gg, offg, p1, p2, p3, p4, p5⟩ := hap
        refine ⟨ao', cap', w', gg, offg, p1, ?_, p4, p5.imp id (fun h => by simp at h; omega), Nat.le_trans (by simp) p4.size⟩
        rw [hps]; exact p2
      have HRUN := hide hrun
      have HQ := hide (And.intro r1 (And.intro r2 (And.intro r3 (And.intro r4 hF3))))
      clear hrun r1 r2 r3 r4 hF3 hrow hg3
      go_wp2_with (at_builtin; refine wpList_append_known' _ rfl (.tmp 19) (.tmp 28) 23 23 rfl rfl rfl (unhide HRUN) ?_)
      obtain ⟨r1, r2, r3, r4, hF3⟩ := unhide HQ
      obtain ⟨hF, hIt, hg, hb⟩ := unhide HR
      obtain ⟨_, hps, hql, hlt, hxl⟩ := unhide HX
      refine ⟨⟨i + 1, by omega, by go_num, ao', cap', gg, offg, rfl, hide ⟨?_, r1.mono (fun k hk t => ⟨t.1, ?_⟩), ?_, ?_⟩⟩, by simp [intOf]; omega⟩
      · exact (hF.trans (hF3.alloc _) (fun _ _ t => t)).trans r2 (fun k hk t => by omega)
      · rcases r3 with ⟨e1, _⟩ | e1
        · rw [e1]; exact t.2.1
        · omega
      · rcases r3 with ⟨e1, _⟩ | e1
        · omega
        · have := hb.lt; have := hF3.size; omega
      · exact (hb.keep (hF3.alloc _)).frame r2 (fun t => by omega)
    · obtain rfl : i = n := by omega
      go_wp2
      go_ret
      obtain ⟨hI, ha, hit⟩ := unhide HH
      obtain ⟨hF, hIt, hg, hb⟩ := unhide HR
      have hnl := unhide HN
      have e : (qraw 1 a [] :: qputs a (l.take i)) = qrecs ⟨a, l⟩ := by rw [hnl, List.take_length]; rfl
      rw [e] at hIt
      have hql : (qrecs ⟨a, l⟩).length = i + 1 := by rw [qrecs_length, hnl]
      exact ⟨ro, rc, by rw [hql]; rfl, hIt.recs (fun k t => t.1) (fun _ => by omega) (by rw [hql]; omega), hF⟩

end Go.Proofs.YtjkghgcdkfkekaaGreatDoor

/- A row of items of one's own ('RI'), what behind and become make of it; contract: rowOf. -/
namespace Go.Proofs.YtjkghgcdkfkekaaGreatDoor
open Go.RowKit

/-- A row of items, all in blocks of which F holds, the row's own block apart. -/
structure RI (F : Nat → Prop) (w : World) (io : Option Addr) (cap g off : Nat) (l : List Bs) : Prop where
  its : Its (fun k => F k ∧ (0 < cap → k ≠ g)) w io cap g off l
  own : 0 < cap → F g

theorem RI.nil (F : Nat → Prop) (w : World) (g off : Nat) : RI F w none 0 g off [] := ⟨Its.nil _ _ _ _, fun h => absurd h (by omega)⟩
theorem RI.frame {F S : Nat → Prop} {w w' : World} {io : Option Addr} {cap g off : Nat} {l : List Bs} (h : RI F w io cap g off l) (hF : Fr S w w') (hS : ∀ k, F k → ¬ S k) : RI F w' io cap g off l :=
  ⟨h.its.frame hF (fun hc => hS g (h.own hc)) (fun k hk => hS k hk.1), h.own⟩
theorem RI.keep {F : Nat → Prop} {w w' : World} {io : Option Addr} {cap g off : Nat} {l : List Bs} (h : RI F w io cap g off l) (hF : Fr (fun _ => False) w w') : RI F w' io cap g off l := h.frame hF (fun _ _ t => t)
theorem RI.mono {F F' : Nat → Prop} {w : World} {io : Option Addr} {cap g off : Nat} {l : List Bs} (h : RI F w io cap g off l) (hF : ∀ k, k < w.heap.size → F k → F' k) : RI F' w io cap g off l :=
  ⟨h.its.mono (fun k hk t => ⟨hF k hk t.1, t.2⟩), fun hc => hF g (h.its.lt hc) (h.own hc)⟩

/-- What stands behind the call of behind: the row as it was, and the new one. -/
structure Beh (F : Nat → Prop) (w : World) (a : Nat) (io : Option Addr) (cap g off : Nat) (l : List Bs) (c : Cg) (io' : Option Addr) (cap' g' off' : Nat) : Prop where
  old : RI F w io cap g off l
  new : (c.k = 2 ∧ RI F w io' cap' g' off' (l ++ [c.it])) ∨ (c.k = 3 ∧ a ≤ c.s ∧ c.s - a ≤ l.length ∧ cap' = cap - (c.s - a) ∧ (0 < cap' → io' = some ⟨g, off + (c.s - a), none⟩)) ∨ (c.k = 1 ∧ a ≤ c.s ∧ io' = none ∧ cap' = 0)

theorem Beh.frame {F S : Nat → Prop} {w w' : World} {a : Nat} {io : Option Addr} {cap g off : Nat} {l : List Bs} {c : Cg} {io' : Option Addr} {cap' g' off' : Nat} (h : Beh F w a io cap g off l c io' cap' g' off') (hF : Fr S w w') (hS : ∀ k, F k → ¬ S k) : Beh F w' a io cap g off l c io' cap' g' off' :=
  ⟨h.old.frame hF hS, h.new.imp (fun t => ⟨t.1, t.2.frame hF hS⟩) id⟩

theorem Beh.mono {F F' : Nat → Prop} {w : World} {a : Nat} {io : Option Addr} {cap g off : Nat} {l : List Bs} {c : Cg} {io' : Option Addr} {cap' g' off' : Nat} (h : Beh F w a io cap g off l c io' cap' g' off') (hF : ∀ k, k < w.heap.size → F k → F' k) : Beh F' w a io cap g off l c io' cap' g' off' :=
  ⟨h.old.mono hF, h.new.imp (fun t => ⟨t.1, t.2.mono hF⟩) id⟩

/-- The new row, as items that can be read. -/
theorem Beh.after {F : Nat → Prop} {w : World} {q : Qr} {io : Option Addr} {cap g off : Nat} {c : Cg} {io' : Option Addr} {cap' g' off' : Nat} (h : Beh F w q.acked io cap g off q.items c io' cap' g' off') :
    ∃ gg oo, Its (fun _ => True) w io' cap' gg oo (q.behind c).items := by
  rcases h.new with ⟨k, r⟩ | ⟨k, h1, h2, h3, h4⟩ | ⟨k, h1, rfl, rfl⟩
  · exact ⟨g', off', by simp only [Qr.behind, if_pos k]; exact r.its.mono (fun _ _ _ => trivial)⟩
  · refine ⟨g, off + (c.s - q.acked), ?_⟩
    simp only [Qr.behind, if_neg (show ¬ c.k = 2 by omega), if_pos k]
    subst h3
    exact (h.old.its.drop _ h2 io' h4).mono (fun _ _ _ => trivial)
  · refine ⟨0, 0, ?_⟩
    simp only [Qr.behind, if_neg (show ¬ c.k = 2 by omega), if_neg (show ¬ c.k = 3 by omega)]
    exact Its.nil _ _ _ _

/-- A row's change that may be, with the item's bytes. -/
theorem behind_all (F : Nat → Prop) (w : World) (q : Qr) (io : Option Addr) (cap g off : Nat) (hI : RI F w io cap g off q.items) (hq : q.Ok 4096) (c : Cg) (hc : c.Ok) (first : Bool) (hf : first = true → q = ⟨0, []⟩) (hm : q.may c first = true) (xo : Option Addr) (xc : Nat) (hx : IEl (fun k => F k ∧ (0 < cap → k ≠ g)) w (.slice xo c.it.length xc) c.it) :
    Calls Tryz.prog 75 #[.agg #[.int .i64 (q.acked : Int), .slice io q.items.length cap], .agg #[.int .i64 (c.k : Int), .int .i64 (c.s : Int), .slice xo c.it.length xc]] w fun e w' => ∃ io' cap' g' off', e = .returned (.agg #[.int .i64 ((q.behind c).acked : Int), .slice io' (q.behind c).items.length cap']) ∧ Beh (fun k => F k ∨ w.heap.size ≤ k) w' q.acked io cap g off q.items c io' cap' g' off' ∧ Fr (fun k => k = g ∧ 0 < cap) w w' := by
  have h1 := hq.last
  have h2 := hq.many
  have hl : q.last = q.acked + q.items.length := rfl
  have hs := hc.s
  unfold Qr.may at hm
  by_cases k1 : c.k = 1
  · rw [if_pos k1] at hm
    have e := hf hm
    have hb : q.behind c = ⟨c.s, []⟩ := by simp [Qr.behind, k1]
    rw [hb]
    refine (behind_base w q.acked q.items.length io cap c.k c.s (by omega) (by omega) xo c.it.length xc).mono ?_
    rintro ee w' ⟨rfl, hF⟩
    exact ⟨none, 0, 0, 0, rfl, ⟨(hI.keep hF).mono (fun _ _ t => .inl t), .inr (.inr ⟨k1, by rw [e]; exact Nat.zero_le _, rfl, rfl⟩)⟩, hF.mono (fun _ _ t => t.elim)⟩
  · rw [if_neg k1] at hm
    by_cases k2 : c.k = 2
    · have hb : q.behind c = ⟨q.acked, q.items ++ [c.it]⟩ := by simp [Qr.behind, k2]
      rw [hb, k2]
      have hI2 := hI.its.mono (E' := fun k => (F k ∧ (0 < cap → k ≠ g)) ∧ k < w.heap.size) (fun k hk t => ⟨t, hk⟩)
      have hx2 := hx.mono (E' := fun k => (F k ∧ (0 < cap → k ≠ g)) ∧ k < w.heap.size) (fun k hk t => ⟨t, hk⟩)
      refine (behind_put w _ q.acked c.s io cap g off q.items hI2 (fun hc t => t.1.2 hc rfl) (by omega) xo xc c.it hx2).mono ?_
      rintro ee w' ⟨io', cap', g', off', rfl, r1, r2, r3, r4⟩
      refine ⟨io', cap', g', off', by simp, ⟨⟨r2.mono (fun k _ t => ⟨.inl t.1.1, t.1.2⟩), fun hc => .inl (hI.own hc)⟩, .inl ⟨k2, r1.mono (fun k _ t => ⟨.inl t.1.1, fun hc => ?_⟩), fun hc => ?_⟩⟩, r3⟩
      · rcases r4 with ⟨e1, e2⟩ | e1
        · rw [e1]; exact t.1.2 (by omega)
        · omega
      · rcases r4 with ⟨e1, e2⟩ | e1
        · rw [e1]; exact .inl (hI.own (by omega))
        · exact .inr e1
    · rw [if_neg k2] at hm
      by_cases k3 : c.k = 3
      · rw [if_pos k3] at hm
        simp at hm
        have hb : q.behind c = ⟨c.s, q.items.drop (c.s - q.acked)⟩ := by simp [Qr.behind, k3]
        rw [hb, k3]
        refine (behind_ack w _ q.acked c.s io cap g off q.items hI.its (by omega) (by omega) hs xo c.it.length xc).mono ?_
        rintro ee w' ⟨io', rfl, r1, hF⟩
        exact ⟨io', _, 0, 0, by simp, ⟨(hI.keep hF).mono (fun _ _ t => .inl t), .inr (.inl ⟨k3, by omega, by omega, rfl, r1⟩)⟩, hF.mono (fun _ _ t => t.elim)⟩
      · rw [if_neg k3] at hm; cases hm

theorem become_all (F : Nat → Prop) (w : World) (q : Qr) (io : Option Addr) (cap g off : Nat) (c : Cg) (hc : c.Ok) (hq : q.Ok 4096) (hacked : q.acked ≤ (q.behind c).acked) (io' : Option Addr) (cap' g' off' : Nat) (hB : Beh F w q.acked io cap g off q.items c io' cap' g' off') (qb : Nat) (cs : Array Value) (T : TypeId) (hb : Bx w qb cs T) (hqF : ¬ F qb)
    (h0 : cs[0]? = some (.int .i64 (q.acked : Int))) (h1 : cs[1]? = some (.slice io q.items.length cap)) :
    Calls Tryz.prog 77 #[.pointer (some ⟨qb, 0, none⟩), .agg #[.int .i64 ((q.behind c).acked : Int), .slice io' (q.behind c).items.length cap']] w fun e w' => e = .returned (.tuple #[]) ∧ Bx w' qb ((cs.setIfInBounds 0 (.int .i64 ((q.behind c).acked : Int))).setIfInBounds 1 (.slice io' (q.behind c).items.length cap')) T ∧ Fr (fun k => k = qb ∨ (k = g ∧ 0 < cap)) w w' ∧ ∃ g2 off2, RI F w' io' cap' g2 off2 (q.behind c).items := by
  have hl1 := hq.last
  have hl2 := hq.many
  have hl : q.last = q.acked + q.items.length := rfl
  have hna : (q.behind c).acked < 4294967296 := by
    have := hc.s
    unfold Qr.behind
    split
    · show q.acked < _; omega
    · split <;> exact this
  refine (become_any w _ qb cs T hb q.acked (q.behind c).acked io cap g off q.items h0 h1 hB.old.its (fun hc t => t.2 hc rfl) (fun hc e => hqF (by rw [← e]; exact hB.old.own hc)) (fun t => hqF t.1) hacked hna (by omega) io' (q.behind c).items.length cap').mono ?_
  rintro e w' ⟨rfl, hbx, hF, hI⟩
  refine ⟨rfl, hbx, hF.mono (fun k _ t => t.imp id (fun t => ⟨t.1, t.2.1⟩)), ?_⟩
  rcases hB.new with ⟨k, r⟩ | ⟨k, a1, a2, a3, a4⟩ | ⟨k, a1, rfl, rfl⟩
  · have hbe : q.behind c = ⟨q.acked, q.items ++ [c.it]⟩ := by simp [Qr.behind, k]
    rw [hbe] at hF ⊢
    simp only [Nat.sub_self, Nat.zero_min] at hF
    exact ⟨g', off', r.frame hF (fun k hk t => by rcases t with t | t; (· exact hqF (by rw [← t]; exact hk)); (· omega))⟩
  · have hbe : q.behind c = ⟨c.s, q.items.drop (c.s - q.acked)⟩ := by simp [Qr.behind, k]
    rw [hbe] at hI ⊢
    simp only at hI
    rw [Nat.min_eq_left a2] at hI
    subst a3
    exact ⟨g, off + (c.s - q.acked), ⟨(hI io' a4).mono (fun k _ t => ⟨t.1, fun hc => t.2 (by omega)⟩), fun hc => hB.old.own (by omega)⟩⟩
  · have hbe : q.behind c = ⟨c.s, []⟩ := by simp [Qr.behind, k]
    rw [hbe]
    exact ⟨0, 0, RI.nil _ _ _ _⟩

end Go.Proofs.YtjkghgcdkfkekaaGreatDoor

/- Contract: rowOf. -/
namespace Go.Proofs.YtjkghgcdkfkekaaGreatDoor
open Go.RowKit

/-- What the loop of rowOf holds. -/
def RoS (w wr : World) (q : Qr) : Prop := ∃ io cap g off, Fr (fun _ => False) w wr ∧ Bx wr w.heap.size #[.int .i64 0, .slice none 0 0] 118 ∧ Bx wr (w.heap.size + 1) #[.int .i64 (q.acked : Int), .slice io q.items.length cap] 118 ∧ RI (fun k => w.heap.size + 1 < k) wr io cap g off q.items

/-- What rowOf answers. -/
def RowPost (w : World) (rs : List Bs) (e : Ending) (w' : World) : Prop := Fr (fun _ => False) w w' ∧ match qOf rs with
  | none => e = .returned (.tuple #[.agg #[.int .i64 0, .slice none 0 0], .bool false])
  | some q => ∃ io cap g off, e = .returned (.tuple #[.agg #[.int .i64 (q.acked : Int), .slice io q.items.length cap], .bool true]) ∧ RI (fun k => w.heap.size ≤ k) w' io cap g off q.items

theorem rowPost_no {w w' : World} {rs : List Bs} {e : Ending} (hq : qOf rs = none) (hF : Fr (fun _ => False) w w') (he : e = .returned (.tuple #[.agg #[.int .i64 0, .slice none 0 0], .bool false])) : RowPost w rs e w' := by
  refine ⟨hF, ?_⟩
  rw [hq]; exact he

theorem rowPost_yes {w w' : World} {rs : List Bs} {e : Ending} {q : Qr} (hq : qOf rs = some q) (hF : Fr (fun _ => False) w w') {io : Option Addr} {cap g off : Nat} (he : e = .returned (.tuple #[.agg #[.int .i64 (q.acked : Int), .slice io q.items.length cap], .bool true])) (hI : RI (fun k => w.heap.size ≤ k) w' io cap g off q.items) : RowPost w rs e w' := by
  refine ⟨hF, ?_⟩
  rw [hq]; exact ⟨io, cap, g, off, he, hI⟩

set_option maxHeartbeats 2000000 in
set_option maxRecDepth 20000 in
theorem rowOf_any (w : World) (P : Nat → Prop) (ro : Option Addr) (rc : Nat) (rs : List Bs) (hR : RecsP P w ro rc rs) :
    Calls Tryz.prog 59 #[.slice ro rs.length rc] w (RowPost w rs) := by
  have hsm := hR.small
  have HH := hide hR
  obtain ⟨n, hn⟩ : ∃ n, n = rs.length := ⟨_, rfl⟩
  have HN := hide hn
  have hnI : (n : Int) ≤ 140737488355328 := by omega
  rw [← hn]
  clear hR hsm hn
  go_enter Tryz.func59, Tryz.ntmps59
  go_wp2
  have H0 : Hid (RoS w ((w.alloc (.cells #[.int .i64 0, .slice none 0 0] 118)).alloc (.cells #[.int .i64 0, .slice none 0 0] 118)) ⟨0, []⟩) := by
    have b2 := Bx.new (w.alloc (.cells #[.int .i64 0, .slice none 0 0] 118)) #[.int .i64 0, .slice none 0 0] 118
    simp only [heap_alloc] at b2
    exact hide ⟨none, 0, 0, 0, ((Fr.refl _ _).alloc _).alloc _, (Bx.new w _ _).alloc _, b2, RI.nil _ _ _ _⟩
  generalize (w.alloc (.cells #[.int .i64 0, .slice none 0 0] 118)).alloc (.cells #[.int .i64 0, .slice none 0 0] 118) = W at *
  go_loopw [11] (fun iv wr => ∃ i : Nat, i ≤ n ∧ iv = .int .i64 i ∧ ∃ q, Hid (qOf (rs.take i) = some q ∧ RoS w wr q)) (fun iv _ => n - (intOf iv).toNat)
  case atStart => exact ⟨0, Nat.zero_le _, rfl, ⟨0, []⟩, hide ⟨rfl, unhide H0⟩⟩
  case round =>
    obtain ⟨i, hi, rfl, q, HR⟩ := hrel
    clear H0
    by_cases hlt : i < n
    · have hnl := unhide HN
      obtain ⟨hqo, io, cap, g, off, hF, b1, b2, hI⟩ := unhide HR
      obtain ⟨rb, rof, rfl, hpb, hcs⟩ := ((unhide HH).frame hF (fun _ _ t => t)).cells (by omega)
      obtain ⟨xo, xc, cx, hxb, hpx⟩ := hcs i (by omega)
      obtain ⟨X, hX⟩ : ∃ X, X = rs[i]'(by omega) := ⟨_, rfl⟩
      rw [← hX] at cx hxb
      obtain ⟨qa1, qa2⟩ := qfold_at (by omega : i < rs.length) hqo
      rw [← hX] at qa1 qa2
      have RC := readChange_any wr xo xc X hxb
      have hiI : (i : Int) < (n : Int) := by omega
      have HQ0 := hide hqo
      have HX := hide (And.intro RC (And.intro qa1 (And.intro qa2 (And.intro hF (And.intro b1 (And.intro b2 (And.intro hI (And.intro hlt (qOf_ok hqo)))))))))
      have hwl : w.heap.size + 1 < wr.heap.size := b2.lt
      have hf0 : ((i : Int) == 0) = decide (i = 0) := by
        by_cases h : i = 0
        · subst h; rfl
        · rw [decide_eq_false h]; simp; omega
      clear hpb hpx hnl hqo hF b1 b2 hI hcs hxb hX qa1 qa2 RC HR
      go_wp2_with fail
      refine (unhide HX).1.mono ?_
      rintro e w3 ⟨k, s, it, yo, yc, rfl, hu, hbat, hblk, hF3⟩
      obtain ⟨_, qa1, qa2, hF, b1, b2, hI, hlt, hok⟩ := unhide HX
      have b1' := b1.keep hF3
      have b2' := b2.keep hF3
      have p0 : w3.cell? ⟨w.heap.size, 0, none⟩ = some (.int .i64 0) := b1'.cell 0
      have p1 : w3.cell? ⟨w.heap.size, 1, none⟩ = some (.slice none 0 0) := b1'.cell 1
      have p2 := b1'.frozen 0
      have p3 := b1'.frozen 1
      have r0 : w3.cell? ⟨w.heap.size + 1, 0, none⟩ = some (.int .i64 (q.acked : Int)) := b2'.cell 0
      have r1 : w3.cell? ⟨w.heap.size + 1, 1, none⟩ = some (.slice io q.items.length cap) := b2'.cell 1
      have hl3 : w.heap.size + 1 < w3.heap.size := b2'.lt
      have hn0 : w.heap.size ≠ w3.heap.size := by omega
      have hn1 : w.heap.size + 1 ≠ w3.heap.size := by omega
      cases hrd : rdc X with
      | none =>
        rw [hrd] at qa1
        simp only at qa1
        have HE := hide (And.intro qa1 ((hF.trans hF3 (fun _ _ t => t)).alloc (.cells #[.int .i64 (k : Int), .int .i64 (s : Int), .slice yo it.length yc] 123)))
        have HB1 := hide (b1'.alloc (.cells #[.int .i64 (k : Int), .int .i64 (s : Int), .slice yo it.length yc] 123))
        clear qa1 qa2 hF b1 b2 hI hlt hok b1' b2' hu hbat hblk hF3 hrd HX
        have m0 : (w3.alloc (.cells #[.int .i64 (k : Int), .int .i64 (s : Int), .slice yo it.length yc] 123)).cell? ⟨w.heap.size, 0, none⟩ = some (.int .i64 0) := (unhide HB1).cell 0
        have m1 : (w3.alloc (.cells #[.int .i64 (k : Int), .int .i64 (s : Int), .slice yo it.length yc] 123)).cell? ⟨w.heap.size, 1, none⟩ = some (.slice none 0 0) := (unhide HB1).cell 1
        have m2 : (w3.alloc (.cells #[.int .i64 (k : Int), .int .i64 (s : Int), .slice yo it.length yc] 123)).frozen? ⟨w.heap.size, 0, none⟩ = false := (unhide HB1).frozen 0
        have m3 : (w3.alloc (.cells #[.int .i64 (k : Int), .int .i64 (s : Int), .slice yo it.length yc] 123)).frozen? ⟨w.heap.size, 1, none⟩ = false := (unhide HB1).frozen 1
        go_wp2
        obtain ⟨hqo, hFw⟩ := unhide HE
        have hfin : Bx (((w3.alloc (.cells #[.int .i64 (k : Int), .int .i64 (s : Int), .slice yo it.length yc] 123)).setCell ⟨w.heap.size, 0, none⟩ (.int .i64 0)).setCell ⟨w.heap.size, 1, none⟩ (.slice none 0 0)) w.heap.size #[.int .i64 0, .slice none 0 0] 118 := ((unhide HB1).setCell 0 _).setCell 1 _
        have x0 := hfin.cell 0
        have x1 := hfin.cell 1
        have hFV : Fr (fun _ => False) w (((w3.alloc (.cells #[.int .i64 (k : Int), .int .i64 (s : Int), .slice yo it.length yc] 123)).setCell ⟨w.heap.size, 0, none⟩ (.int .i64 0)).setCell ⟨w.heap.size, 1, none⟩ (.slice none 0 0)) := (hFw.setCell (fun h => absurd h (by show ¬ w.heap.size < _; omega)) _).setCell (fun h => absurd h (by show ¬ w.heap.size < _; omega)) _
        generalize ((w3.alloc (.cells #[.int .i64 (k : Int), .int .i64 (s : Int), .slice yo it.length yc] 123)).setCell ⟨w.heap.size, 0, none⟩ (.int .i64 0)).setCell ⟨w.heap.size, 1, none⟩ (.slice none 0 0) = V at *
        refine bodyPost_ret (v := .tuple #[.agg #[.int .i64 0, .slice none 0 0], .bool false]) ?_ rfl (rowPost_no hqo hFV rfl)
        simp [results, Tryz.results59, go_sem, x0, x1]
      | some c =>
        obtain rfl := hu c hrd
        rw [hrd] at qa1 qa2
        simp only at qa1 qa2
        obtain ⟨hcok, _⟩ := rdc_some hrd
        have b3 := Bx.new w3 #[.int .i64 (k : Int), .int .i64 (s : Int), .slice yo it.length yc] 123
        have hF4 : Fr (fun _ => False) w (w3.alloc (.cells #[.int .i64 (k : Int), .int .i64 (s : Int), .slice yo it.length yc] 123)) := (hF.trans hF3 (fun _ _ t => t)).alloc _
        have b14 := b1'.alloc (.cells #[.int .i64 (k : Int), .int .i64 (s : Int), .slice yo it.length yc] 123)
        have b24 := b2'.alloc (.cells #[.int .i64 (k : Int), .int .i64 (s : Int), .slice yo it.length yc] 123)
        have hI4 := (hI.keep hF3).keep ((Fr.refl _ w3).alloc (.cells #[.int .i64 (k : Int), .int .i64 (s : Int), .slice yo it.length yc] 123))
        have hx4 : IEl (fun k => w.heap.size + 1 < k ∧ (0 < cap → k ≠ g)) (w3.alloc (.cells #[.int .i64 (k : Int), .int .i64 (s : Int), .slice yo it.length yc] 123)) (.slice yo it.length yc) it := by
          refine ⟨yo, yc, rfl, hbat.later ((Fr.refl _ w3).alloc _), fun b o h0 e => ?_⟩
          have := hblk b o h0 e
          exact ⟨by omega, fun hc => by have := hI.its.lt hc; omega⟩
        have MH := fun u => mayHave_any u q.acked q.items.length io cap k s yo it.length yc (decide (i = 0)) (by have h1 := hok.last; have h2 : q.last = q.acked + q.items.length := rfl; omega)
        rw [← may_mayF q ⟨k, s, it⟩ (decide (i = 0))] at MH
        have hiz : decide (i = 0) = true → q = ⟨0, []⟩ := by
          intro h
          have h0 : i = 0 := of_decide_eq_true h
          subst h0
          have := unhide HQ0
          simpa [qOf_nil] using this.symm
        have HE := hide (And.intro qa1 (And.intro qa2 (And.intro hF4 (And.intro b14 (And.intro b24 (And.intro hI4 (And.intro hx4 (And.intro hok (And.intro hcok (And.intro hiz hlt))))))))))
        have HMH := hide MH
        clear qa1 qa2 hF b1 b2 hI hlt hok b1' b2' hu hbat hblk hF3 hrd HX b14 b24 hI4 hx4 MH hiz hcok hF4
        generalize hfz : decide (i = 0) = fz at *
        clear hfz
        have e0 : (w3.alloc (.cells #[.int .i64 (k : Int), .int .i64 (s : Int), .slice yo it.length yc] 123)).cell? ⟨w.heap.size + 1, 0, none⟩ = some (.int .i64 (q.acked : Int)) := (unhide HE).2.2.2.2.1.cell 0
        have e1 : (w3.alloc (.cells #[.int .i64 (k : Int), .int .i64 (s : Int), .slice yo it.length yc] 123)).cell? ⟨w.heap.size + 1, 1, none⟩ = some (.slice io q.items.length cap) := (unhide HE).2.2.2.2.1.cell 1
        go_wp2_with fail
        refine (unhide HMH _).mono ?_
        rintro e w5 ⟨rfl, hF5⟩
        cases hmay : q.may ⟨k, s, it⟩ fz with
        | false =>
          have HE2 : Hid (qOf rs = none ∧ Fr (fun _ => False) w w5) := by
            obtain ⟨qa1, qa2, hF4, _⟩ := unhide HE
            rw [hmay] at qa1
            exact hide ⟨by simpa using qa1, hF4.trans hF5 (fun _ _ t => t)⟩
          have HB1 : Hid (Bx w5 w.heap.size #[.int .i64 0, .slice none 0 0] 118) := hide ((unhide HE).2.2.2.1.keep hF5)
          have m0 : w5.cell? ⟨w.heap.size, 0, none⟩ = some (.int .i64 0) := (unhide HB1).cell 0
          have m1 : w5.cell? ⟨w.heap.size, 1, none⟩ = some (.slice none 0 0) := (unhide HB1).cell 1
          have m2 : w5.frozen? ⟨w.heap.size, 0, none⟩ = false := (unhide HB1).frozen 0
          have m3 : w5.frozen? ⟨w.heap.size, 1, none⟩ = false := (unhide HB1).frozen 1
          clear HE HMH hF5 hmay
          go_wp2
          obtain ⟨hqo, hFw⟩ := unhide HE2
          have hfin : Bx ((w5.setCell ⟨w.heap.size, 0, none⟩ (.int .i64 0)).setCell ⟨w.heap.size, 1, none⟩ (.slice none 0 0)) w.heap.size #[.int .i64 0, .slice none 0 0] 118 := ((unhide HB1).setCell 0 _).setCell 1 _
          have x0 := hfin.cell 0
          have x1 := hfin.cell 1
          have hFV : Fr (fun _ => False) w ((w5.setCell ⟨w.heap.size, 0, none⟩ (.int .i64 0)).setCell ⟨w.heap.size, 1, none⟩ (.slice none 0 0)) := (hFw.setCell (fun h => absurd h (by show ¬ w.heap.size < _; omega)) _).setCell (fun h => absurd h (by show ¬ w.heap.size < _; omega)) _
          generalize (w5.setCell ⟨w.heap.size, 0, none⟩ (.int .i64 0)).setCell ⟨w.heap.size, 1, none⟩ (.slice none 0 0) = V at *
          refine bodyPost_ret (v := .tuple #[.agg #[.int .i64 0, .slice none 0 0], .bool false]) ?_ rfl (rowPost_no hqo hFV rfl)
          simp [results, Tryz.results59, go_sem, x0, x1]
        | true =>
          obtain ⟨qa1, qa2, hF4, b14, b24, hI4, hx4, hok, hcok, hiz, hlt⟩ := unhide HE
          rw [hmay, if_pos rfl] at qa2
          have hacc : q.acked ≤ (q.behind ⟨k, s, it⟩).acked := by
            have hm := hmay
            unfold Qr.may at hm
            unfold Qr.behind
            split
            · exact Nat.le_refl _
            · split
              · rename_i n2 n3
                simp only at n2 n3
                rw [if_neg (by show ¬ k = 1; omega), if_neg n2, if_pos n3] at hm
                simp at hm
                show q.acked ≤ s
                omega
              · rename_i n2 n3
                simp only at n2 n3
                rw [if_neg n2, if_neg n3] at hm
                by_cases k1 : k = 1
                · rw [if_pos k1] at hm
                  rw [hiz hm]; exact Nat.zero_le _
                · rw [if_neg k1] at hm; cases hm
          have BH := behind_all (fun k => w.heap.size + 1 < k) w5 q io cap g off (hI4.keep hF5) hok ⟨k, s, it⟩ hcok fz hiz hmay yo yc (hx4.frame hF5 (fun _ _ t => t))
          have c0 : w5.cell? ⟨w.heap.size + 1, 0, none⟩ = some (.int .i64 (q.acked : Int)) := (b24.keep hF5).cell 0
          have c1 : w5.cell? ⟨w.heap.size + 1, 1, none⟩ = some (.slice io q.items.length cap) := (b24.keep hF5).cell 1
          have d0 : w5.cell? ⟨w3.heap.size, 0, none⟩ = some (.int .i64 (k : Int)) := (b3.keep hF5).cell 0
          have d1 : w5.cell? ⟨w3.heap.size, 1, none⟩ = some (.int .i64 (s : Int)) := (b3.keep hF5).cell 1
          have d2 : w5.cell? ⟨w3.heap.size, 2, none⟩ = some (.slice yo it.length yc) := (b3.keep hF5).cell 2
          have HW := hide (And.intro BH (And.intro qa2 (And.intro (hF4.trans hF5 (fun _ _ t => t)) (And.intro (b14.keep hF5) (And.intro (b24.keep hF5) (And.intro hok (And.intro hcok (And.intro hacc (And.intro hlt (hI4.keep hF5))))))))))
          clear BH qa1 qa2 hF4 b14 b24 hI4 hx4 hok hcok hiz hlt HE HMH hF5 hmay hacc b3 e0 e1
          go_wp2_with fail
          refine (unhide HW).1.mono ?_
          rintro e w6 ⟨io', cap', g', off', rfl, hB, hF6⟩
          obtain ⟨_, qa2, hFw, b1, b2, hok, hcok, hacc, hlt, hI5⟩ := unhide HW
          have hgn : 0 < cap → w.heap.size + 1 < g := hI5.own
          have b26 := b2.frame hF6 (fun t => by have := hgn t.2; omega)
          have BC := become_all (fun k => w.heap.size + 1 < k) w6 q io cap g off ⟨k, s, it⟩ hcok hok hacc io' cap' g' off' (hB.mono (fun k _ t => by have := hFw.size; have := b2.lt; rcases t with t | t <;> omega)) (w.heap.size + 1) _ _ b26 (by omega) rfl rfl
          have HV := hide (And.intro BC (And.intro hF6 (And.intro (b1.frame hF6 (fun t => by have := hgn t.2; omega)) hgn)))
          clear BC hB hF6 qa2 hFw b1 b2 hok hcok hacc hlt hI5 b26 hgn c0 c1 d0 d1 d2
          go_wp2_with fail
          refine (unhide HV).1.mono ?_
          rintro e w7 ⟨rfl, hbx, hF7, g2, off2, hI7⟩
          have HU := hide (And.intro hbx (And.intro hF7 hI7))
          clear hbx hF7 hI7
          go_wp2
          obtain ⟨hbx, hF7, hI7⟩ := unhide HU
          obtain ⟨_, hF6, b16, hgn⟩ := unhide HV
          obtain ⟨_, qa2, hFw, b1, b2, hok, hcok, hacc, hlt, hI5⟩ := unhide HW
          refine ⟨⟨i + 1, by omega, by go_num, q.behind ⟨k, s, it⟩, hide ⟨qa2, io', cap', g2, off2, ?_, ?_, hbx, hI7⟩⟩, by simp [intOf]; omega⟩
          · exact (hFw.trans hF6 (fun k hk t => by have := hgn t.2; omega)).trans hF7 (fun k hk t => by rcases t with t | t; (· omega); (· have := hgn t.2; omega))
          · exact b16.frame hF7 (fun t => by rcases t with t | t; (· omega); (· have := hgn t.2; omega))
    · obtain rfl : i = n := by omega
      obtain ⟨hqo, io, cap, g, off, hF, b1, b2, hI⟩ := unhide HR
      have HE := hide (And.intro hqo (And.intro hF (And.intro b1 (And.intro b2 hI))))
      have p0 : wr.cell? ⟨w.heap.size, 0, none⟩ = some (.int .i64 0) := b1.cell 0
      have p1 : wr.cell? ⟨w.heap.size, 1, none⟩ = some (.slice none 0 0) := b1.cell 1
      have p2 := b1.frozen 0
      have p3 := b1.frozen 1
      have r0 : wr.cell? ⟨w.heap.size + 1, 0, none⟩ = some (.int .i64 (q.acked : Int)) := b2.cell 0
      have r1 : wr.cell? ⟨w.heap.size + 1, 1, none⟩ = some (.slice io q.items.length cap) := b2.cell 1
      clear hqo hF b1 b2 hI HR
      go_wp2
      obtain ⟨hqo, hF, b1, b2, hI⟩ := unhide HE
      have hnl := unhide HN
      rw [hnl, List.take_length] at hqo
      have hfin : Bx ((wr.setCell ⟨w.heap.size, 0, none⟩ (.int .i64 (q.acked : Int))).setCell ⟨w.heap.size, 1, none⟩ (.slice io q.items.length cap)) w.heap.size #[.int .i64 (q.acked : Int), .slice io q.items.length cap] 118 := (b1.setCell 0 _).setCell 1 _
      have f2 : Fr (fun k => k = w.heap.size) wr ((wr.setCell ⟨w.heap.size, 0, none⟩ (.int .i64 (q.acked : Int))).setCell ⟨w.heap.size, 1, none⟩ (.slice io q.items.length cap)) := ((Fr.refl (fun k => k = w.heap.size) _).setCell (fun _ => rfl) _).setCell (fun _ => rfl) _
      generalize (wr.setCell ⟨w.heap.size, 0, none⟩ (.int .i64 (q.acked : Int))).setCell ⟨w.heap.size, 1, none⟩ (.slice io q.items.length cap) = V at *
      have x0 : V.cell? ⟨w.heap.size, 0, none⟩ = some (.int .i64 (q.acked : Int)) := hfin.cell 0
      have x1 : V.cell? ⟨w.heap.size, 1, none⟩ = some (.slice io q.items.length cap) := hfin.cell 1
      refine bodyPost_ret (v := .tuple #[.agg #[.int .i64 (q.acked : Int), .slice io q.items.length cap], .bool true]) ?_ rfl ?_
      · simp [results, Tryz.results59, go_sem, x0, x1]
      · exact rowPost_yes hqo (hF.trans f2 (fun k hk t => by omega)) rfl ((hI.frame f2 (fun k hk t => by omega)).mono (fun k _ t => by omega))

end Go.Proofs.YtjkghgcdkfkekaaGreatDoor

