import Derived.Test.YtabhfeocelljdaaGreatDoorZG5
import Derived.Test.YtabhfeocelljdaaGreatDoorZF6
import Derived.Deep.RegionHeld3
import Derived.Deep.RegionLaw
/- Contract: Tick. -/
namespace Go.Proofs.YtabhfeocelljdaaGreatDoor
open Go.RowKit Go.Maps

/-- Tick under way: the sender, the frames so far. -/
structure TL (w : World) (p b : Nat) (s1 : Snd) (sent : List (Int × Int)) (fo : Option Addr) (fc fb : Nat) (xs : List FrM) (wr : World) : Prop where
  sn : SN wr p b { s1 with sent := sent }
  fl : FL w.heap.size wr fo fc fb xs
  fr : Fr (fun k => k = p ∨ k = b) w wr
  pb : p < w.heap.size ∧ b < w.heap.size

theorem TL.keep {w wr w' : World} {p b : Nat} {s1 : Snd} {sent : List (Int × Int)} {fo : Option Addr} {fc fb : Nat} {xs : List FrM} (h : TL w p b s1 sent fo fc fb xs wr) (k : Fr (fun _ => False) wr w') : TL w p b s1 sent fo fc fb xs w' :=
  ⟨h.sn.frame k (fun t => t) (fun t => t), h.fl.frame k (fun _ t => t.elim), h.fr.trans k (fun _ _ t => t.elim), h.pb⟩
theorem TL.note {w wr w' : World} {p b : Nat} {s1 : Snd} {sent : List (Int × Int)} {fo : Option Addr} {fc fb : Nat} {xs : List FrM} (h : TL w p b s1 sent fo fc fb xs wr) {q : Int} (k : Fr (fun k => k = b) wr w') (m : SMap w' b (sent ++ [(q, s1.clk)])) : TL w p b s1 (sent ++ [(q, s1.clk)]) fo fc fb xs w' := by
  have hp := h.pb
  refine ⟨⟨h.sn.bx.frame k h.sn.ne, m, h.sn.ne, h.sn.win, h.sn.bat, h.sn.evy, h.sn.clk, fun x hx => ?_⟩, h.fl.frame k (fun i t => by have t : i = b := t; omega), h.fr.trans k (fun i _ t => .inr t), h.pb⟩
  have hx : x ∈ sent ++ [(q, s1.clk)] := hx
  rw [List.mem_append, List.mem_singleton] at hx
  rcases hx with hx | rfl
  · exact h.sn.tks x hx
  · exact ⟨h.sn.clk.1, Int.le_refl _⟩
theorem TL.openw {w wr w' : World} {p b : Nat} {s1 : Snd} {sent : List (Int × Int)} {fo fo' : Option Addr} {fc fb fc' fb' : Nat} {xs : List FrM} (h : TL w p b s1 sent fo fc fb xs wr) (kd ba sq : Int)
    (k1 : KRow w' fo' fc' fb' 5 (xs.flatMap FrM.cells ++ [.int .i64 kd, .int .i64 ba, .int .i64 sq, .slice none 0 0, .slice none 0 0])) (k2 : Grew wr fb fc w' fb' fc') :
    TL w p b s1 sent fo' fc' fb' (xs ++ [⟨⟨kd, ba, sq, [], []⟩, none, 0, 0, [], w'.heap.size, w'.heap.size⟩]) w' := by
  have hp := h.pb
  have hz := h.fr.size
  have hS : ∀ i, (i = fb ∧ 0 < fc) → w.heap.size ≤ i := fun i t => by have := (h.fl.bk t.2).1; omega
  exact ⟨h.sn.frame k2.frZ (fun t => by have := hS _ t; omega) (fun t => by have := hS _ t; omega), h.fl.openw (by omega) kd ba sq k1 k2, h.fr.trans k2.frZ (fun i hi t => by have := hS _ t; omega), h.pb⟩
theorem TL.add {w wr w1 w2 : World} {p b : Nat} {s1 : Snd} {sent : List (Int × Int)} {fo : Option Addr} {fc fb : Nat} {pre : List FrM} {x : FrM} (h : TL w p b s1 sent fo fc fb (pre ++ [x]) wr) (f1 : Fr (fun _ => False) wr w1) {d : RD} {bs : List UInt8} (hb : bs.length ≤ 140737488355328) (hr : Row w1 d.val d.g bs) (hn : d.n = bs.length) (hd : 0 < d.cap → wr.heap.size ≤ d.g)
    {io' : Option Addr} {ic' ib' : Nat} (k1 : KRow w2 io' ic' ib' 1 (x.ds.map RD.val ++ [d.val])) (k2 : Grew w1 x.ib x.ic w2 ib' ic') :
    TL w p b s1 sent fo fc fb (pre ++ [⟨{ x.f with items := x.f.items ++ [bs] }, io', ic', ib', x.ds ++ [d], x.lo, w2.heap.size⟩]) (w2.setCell ⟨fb, pre.length * 5 + 3, none⟩ (.slice io' (x.f.items.length + 1) ic')) := by
  have hp := h.pb
  have hle := h.fl.row.le
  rw [flat5, List.length_append, List.length_singleton] at hle
  have hfb := (h.fl.bk (by omega)).1
  have hx := h.fl.lw x (by simp)
  have hS : ∀ i, (i = x.ib ∧ 0 < x.ic) → w.heap.size ≤ i := fun i t => by have := (h.fl.ok x (by simp)).il.ib t.2; omega
  have f2 : Fr (fun k => w.heap.size ≤ k) wr (w2.setCell ⟨fb, pre.length * 5 + 3, none⟩ (.slice io' (x.f.items.length + 1) ic')) :=
    Fr.setCell (S := fun k => w.heap.size ≤ k) (((f1.mono (T := fun k => w.heap.size ≤ k) (fun _ _ t => t.elim)).trans k2.frZ (fun i _ t => hS i t))) (p := ⟨fb, pre.length * 5 + 3, none⟩) (fun _ => hfb) _
  exact ⟨h.sn.frame f2 (by omega) (by omega), h.fl.add f1 hb hr hn hd k1 k2, h.fr.trans f2 (fun i hi t => by omega), h.pb⟩

/-- The last frame's cells. -/
theorem FL.lastc {M : Nat} {w : World} {fo : Option Addr} {fc fb : Nat} {pre : List FrM} {x : FrM} (h : FL M w fo fc fb (pre ++ [x])) : fo = some ⟨fb, 0, none⟩ ∧ ∀ j, j < 5 → w.cell? ⟨fb, pre.length * 5 + j, none⟩ = x.cells[j]? := by
  have hle := h.row.le
  rw [flat5, List.length_append, List.length_singleton] at hle
  refine ⟨h.row.ad (by omega), fun j hj => ?_⟩
  have hlt : pre.length * 5 + j < ((pre ++ [x]).flatMap FrM.cells).length := by rw [flat5, List.length_append, List.length_singleton]; omega
  rw [h.row.cells _ hlt, ← List.getElem?_eq_getElem hlt]
  exact flat5_get (pre ++ [x]) pre.length j x (by simp) hj

theorem joins_any {w wr : World} {p b : Nat} {s1 : Snd} {sent : List (Int × Int)} {fo : Option Addr} {fc fb : Nat} {xs : List FrM} (h : TL w p b s1 sent fo fc fb xs wr) (hx : xs.length ≤ 64) (h8 : ∀ x ∈ xs, x.f.items.length ≤ 8 ∧ 1 ≤ x.f.seq ∧ x.f.seq ≤ 4294967295) (q : Int) :
    Calls Tryz.prog 40 #[.pointer (some ⟨p, 0, none⟩), .slice fo xs.length fc, .int .i64 q] wr fun e w' => e = .returned (.bool (joinsF s1.bat (xs.map FrM.f) q)) ∧ Hid (Fr (fun _ => False) wr w') := by
  rcases List.eq_nil_or_concat xs with rfl | ⟨pre, x, rfl⟩
  · exact joins_none fo fc q
  · rw [List.concat_eq_append] at *
    obtain ⟨rfl, hc⟩ := h.fl.lastc
    obtain ⟨a1, a2, a3⟩ := h8 x (by simp)
    have hnb := (h.fl.ok x (by simp)).nb
    have := joins_last h.sn fb pre.length fc x.f x.io none x.ic 0 (by simp at hx; omega) (fun j hj => by
      rw [hc j hj]
      simp only [FrM.cells, Fm.cells, hnb]
      rcases j with _ | _ | _ | _ | _ | j <;> first | rfl | omega) a1 ⟨by omega, a3⟩ q
    have e : joinsF s1.bat ((pre ++ [x]).map FrM.f) q = decide ((x.f.items.length : Int) < s1.bat ∧ x.f.seq + (x.f.items.length : Int) = q) := by
      unfold joinsF
      rw [List.map_append, List.map_singleton, List.getLast?_concat]
    rw [e, List.length_append, List.length_singleton]
    exact this

end Go.Proofs.YtabhfeocelljdaaGreatDoor

