import Derived.Test.YtmgejkenpfihmaaFA4
import Derived.Test.YtmgejkenpfihmaaFA6
import Derived.Test.YtmgejkenpfihmaaFA8
import Derived.Test.YtmgejkenpfihmaaFA9
import Derived.Test.YtmgejkenpfihmaaFS1
import Derived.Test.YtmgejkenpfihmaaQL7
/- What journeys cost, asked of the program and of the document: the walk of FareAsks. -/
namespace Go.Proofs.Ytmgejkenpfihmaa
open Go.RowKit

def mk7 : Jn := ⟨-7, 0, 0, 0, 0, false⟩
def mk8 : Jn := ⟨-8, 0, 0, 0, 0, false⟩
theorem jInfo : (Try.prog.info? 30).map (fun i => (i.zero.map (·.cells), i.size, i.bytes)) = some (some (jL jz).toArray, 6, 48) := by kernel_rfl

theorem KRow.made0 (w : World) (z : Array Value) (n k s : Nat) (hs : s = n * k) (hn : n ≤ maxLen) (e : TypeId) : KRow (w.alloc (.cells (madeCells z s) e)) (some ⟨w.heap.size, 0, none⟩) n w.heap.size k [] := by
  subst hs
  refine ⟨Nat.zero_le _, hn, fun _ => rfl, fun j hj => ⟨?_, World.frozen?_alloc_new _ _ _ _⟩, fun j hj => absurd hj (by simp), fun u hu => by cases hu⟩
  rw [World.cell?_alloc_new, Array.getElem?_eq_getElem (by rw [size_madeCells]; exact hj)]
  rfl

set_option maxRecDepth 20000 in
theorem slice_uptoJ (g n m cap : Nat) (h : n ≤ cap) (hc : 0 < cap) (u : World) : (Instr.slice 28 (.slice (some ⟨g, 0, none⟩) m cap) none (some (.int .i64 (n : Int))) none).run Try.prog u = .ok (.slice (some ⟨g, 0, none⟩) n cap) u := by
  rw [run_slice_h (P := Try.prog) (w := u) 28 (some ⟨g, 0, none⟩) m cap Try.underlying28 .i64 (n : Int) (by omega) (by omega)]
  have e : (.slice (some ⟨g, 0, none⟩) n cap : Value) = sliced (some ⟨g, 0, none⟩) 0 n cap 6 := by
    unfold sliced
    rw [if_neg (by omega)]
    simp [Addr.add_lit]
  rw [e]
  rfl

theorem KRow.front {w : World} {ao : Option Addr} {cap g k : Nat} {vs us : List Value} (h : KRow w ao cap g k (vs ++ us)) (hc : 0 < cap) : CAt w ao vs := fun _ =>
  ⟨g, 0, h.ad hc, fun j hj => by rw [Nat.zero_add, h.cells j (by rw [List.length_append]; omega), List.getElem_append_left hj]⟩

theorem Kp.frame {S : Nat → Prop} {w w' : World} {A' : Ad} {t : Tf} {gS gP gB : Nat} (h : Kp w A' t gS gP gB) (hf : Fr S w w') (h1 : ¬ S gS) (h2 : ¬ S gP) (h3 : ¬ S gB) : Kp w' A' t gS gP gB :=
  ⟨h.rS.stay (fun hc => hf.block _ (h.rS.lt (by omega) hc) h1), h.rP.stay (fun hc => hf.block _ (h.rP.lt (by omega) hc) h2), h.rB.stay (fun hc => hf.block _ (h.rB.lt (by omega) hc) h3), h.pS, h.pP, h.pB, h.n1, h.n2, h.n3⟩

theorem Kp.tat {w w' : World} {A A' : Ad} {t : Tf} {gS gP gB : Nat} (h : Kp w' A' t gS gP gB) (hT : TAt w A t) : TAt w' A' t :=
  ⟨KRow.front (us := stC markS) (by have := h.rS; simpa [stV] using this) h.pS, KRow.front (us := spC markP) (by have := h.rP; simpa [spV] using this) h.pP, KRow.front (us := bdC markB) (by have := h.rB; simpa [bdV] using this) h.pB, hT.lS, hT.lP, hT.lB, hT.off⟩

theorem jV_cellF {w : World} {ao : Option Addr} {cap g : Nat} {l : List Jn} (h : KRow w ao cap g 6 (jV l)) {k : Nat} {b : Jn} (hb : l[k]? = some b) : ∀ c (_ : c < 6) v, (jL b)[c]? = some v → w.cell? ⟨g, k * 6 + c, none⟩ = some v := fun c hc v hv => by
  have hk := (List.getElem?_eq_some_iff.1 hb).1
  have hl := jV_length l
  have h1 := h.cells (k * 6 + c) (by omega)
  have h2 := flat_get jL 6 (fun _ => rfl) l k hk c hc
  have h3 : l[k] = b := by rw [List.getElem?_eq_getElem hk] at hb; exact Option.some.inj hb
  rw [h3, hv] at h2
  rw [h1]
  have h4 : (jV l)[k * 6 + c]? = some v := h2
  rw [List.getElem?_eq_getElem (by omega)] at h4
  exact h4

theorem jV_setF (j : Jn) : ∀ (l : List Jn) (k : Nat), k < l.length → jV (l.set k j) = ((((((jV l).set (k * 6) (.int .i64 j.kind)).set (k * 6 + 1) (.int .i64 j.fr)).set (k * 6 + 2) (.int .i64 j.to)).set (k * 6 + 3) (.int .i64 j.st)).set (k * 6 + 4) (.int .i64 j.en)).set (k * 6 + 5) (.bool j.free) := by
  intro l
  induction l with
  | nil => intro k hk; simp at hk
  | cons x r ih =>
    intro k hk
    cases k with
    | zero => simp [jV, jL]
    | succ k =>
      have hk' : k < r.length := by simpa using hk
      rw [List.set_cons_succ]
      show jL x ++ jV (r.set k j) = _
      rw [ih k hk', show (k + 1) * 6 = k * 6 + 6 by omega]
      simp [jV, jL, Nat.add_right_comm _ 6]

theorem KRow.setJF {w : World} {ao : Option Addr} {cap g : Nat} {l : List Jn} (h : KRow w ao cap g 6 (jV l)) {k : Nat} (hk : k < l.length) (j : Jn) :
    KRow ((((((w.setCell ⟨g, k * 6, none⟩ (.int .i64 j.kind)).setCell ⟨g, k * 6 + 1, none⟩ (.int .i64 j.fr)).setCell ⟨g, k * 6 + 2, none⟩ (.int .i64 j.to)).setCell ⟨g, k * 6 + 3, none⟩ (.int .i64 j.st)).setCell ⟨g, k * 6 + 4, none⟩ (.int .i64 j.en)).setCell ⟨g, k * 6 + 5, none⟩ (.bool j.free)) ao cap g 6 (jV (l.set k j)) := by
  have hl := jV_length l
  rw [jV_setF j l k hk]
  exact (((((h.setF (k * 6) (by omega) _ rfl).setF (k * 6 + 1) (by simp; omega) _ rfl).setF (k * 6 + 2) (by simp; omega) _ rfl).setF (k * 6 + 3) (by simp; omega) _ rfl).setF (k * 6 + 4) (by simp; omega) _ rfl).setF (k * 6 + 5) (by simp; omega) _ rfl

/-- What the journeys that were lent have come to behind i rounds. -/
def lentAt (l : List Jn) (i : Nat) : List Jn := List.replicate i mk8 ++ (l.drop i ++ [mk7])
theorem lentAt_length (l : List Jn) {i : Nat} (h : i ≤ l.length) : (lentAt l i).length = l.length + 1 := by simp [lentAt]; omega
theorem lentAt_get (l : List Jn) {i : Nat} (h : i < l.length) : (lentAt l i)[i]? = some l[i] := by
  unfold lentAt
  rw [List.getElem?_append_right (by simp), List.length_replicate, Nat.sub_self, List.drop_eq_getElem_cons h]
  rfl
theorem lentAt_set (l : List Jn) {i : Nat} (h : i < l.length) : (lentAt l i).set i mk8 = lentAt l (i + 1) := by
  unfold lentAt
  rw [List.set_append_right _ _ (by simp), List.length_replicate, Nat.sub_self, List.drop_eq_getElem_cons h, List.replicate_succ']
  simp only [List.cons_append, List.set_cons_zero, List.append_assoc, List.nil_append]
theorem lentAt_end (l : List Jn) : (lentAt l l.length)[l.length]? = some mk7 := by
  unfold lentAt
  rw [List.getElem?_append_right (by simp), List.length_replicate, Nat.sub_self, List.drop_length]
  rfl

theorem allL_le (t : Tf) (l : List Jn) : (allL t l).length ≤ 2000 := by
  unfold allL
  split
  · rename_i h
    have : l.length ≤ 2000 := by
      unfold allE at h
      by_cases hr : rightE t = 0
      · rw [if_pos hr] at h
        by_cases hl : 2000 < l.length
        · rw [if_pos hl] at h; cases h
        · omega
      · rw [if_neg hr] at h; exact absurd h hr
    simpa [priced] using this
  · simp

/-- What FareAsks holds: its boxes, what it lent, both answers. -/
structure AskI (w u : World) (B : Nat) (A : Ad) (t : Tf) (jj : Jn) (gi ci : Nat) (X : List Jn) (aa ab : Option Addr) (ca ga cb gb : Nat) (P : List (Jn × Int)) : Prop where
  fr : Fr (fun _ => False) w u
  tb : TB u B A t
  bx : Bx u (B + 1) (jC jj) 30
  inr : KRow u (some ⟨gi, 0, none⟩) ci gi 6 (jV X)
  ra : KRow u aa ca ga 7 (pV P)
  rb : KRow u ab cb gb 7 (pV P)
  ni : w.heap.size ≤ gi ∧ B + 1 < gi
  na : 0 < ca → gi < ga
  nb : 0 < cb → gi < gb ∧ (0 < ca → ga ≠ gb)

theorem AskI.keep {w u u' : World} {B : Nat} {A : Ad} {t : Tf} {jj : Jn} {gi ci : Nat} {X : List Jn} {aa ab : Option Addr} {ca ga cb gb : Nat} {P : List (Jn × Int)} (h : AskI w u B A t jj gi ci X aa ab ca ga cb gb P) (hf : Fr (fun _ => False) u u') : AskI w u' B A t jj gi ci X aa ab ca ga cb gb P :=
  ⟨h.fr.trans hf (fun _ _ t => t), h.tb.keep hf, h.bx.keep hf, h.inr.keep (by omega) hf, h.ra.keep (by omega) hf, h.rb.keep (by omega) hf, h.ni, h.na, h.nb⟩

theorem AskI.lent {w u u' : World} {B : Nat} {A : Ad} {t : Tf} {jj : Jn} {gi ci : Nat} {X X' : List Jn} {aa ab : Option Addr} {ca ga cb gb : Nat} {P : List (Jn × Int)} (h : AskI w u B A t jj gi ci X aa ab ca ga cb gb P) (hf : Fr (fun q => q = gi) u u') (hi : KRow u' (some ⟨gi, 0, none⟩) ci gi 6 (jV X')) : AskI w u' B A t jj gi ci X' aa ab ca ga cb gb P :=
  ⟨h.fr.trans hf (fun q hq e => by have := h.ni; omega), h.tb.frame hf (by have := h.ni; omega), h.bx.frame hf (by have := h.ni; omega), hi,
   h.ra.stay (fun hc => hf.block _ (h.ra.lt (by omega) hc) (by have := h.na hc; omega)), h.rb.stay (fun hc => hf.block _ (h.rb.lt (by omega) hc) (by have := (h.nb hc).1; omega)), h.ni, h.na, h.nb⟩

/-- What FareAsks holds behind the document's answer. -/
structure AskJ (w u : World) (gi n : Nat) (aa ab aw : Option Addr) (ca ga cb gb cw gw : Nat) (P : List (Jn × Int)) (vs : List Value) : Prop where
  fr : Fr (fun _ => False) w u
  m7 : u.cell? ⟨gi, n * 6, none⟩ = some (.int .i64 (-7))
  ra : KRow u aa ca ga 7 vs
  rb : KRow u ab cb gb 7 (pV P)
  rw : KRow u aw cw gw 7 (pV P)
  na : 0 < ca → w.heap.size ≤ ga ∧ gi < ga
  nb : 0 < ca → 0 < cb → ga ≠ gb
  nw : 0 < ca → 0 < cw → ga ≠ gw
  ln : vs.length = P.length * 7

theorem AskJ.keep {w u u' : World} {gi n : Nat} {aa ab aw : Option Addr} {ca ga cb gb cw gw : Nat} {P : List (Jn × Int)} {vs : List Value} (h : AskJ w u gi n aa ab aw ca ga cb gb cw gw P vs) (hf : Fr (fun _ => False) u u') : AskJ w u' gi n aa ab aw ca ga cb gb cw gw P vs :=
  ⟨h.fr.trans hf (fun _ _ t => t), (hf.cell (a := ⟨gi, n * 6, none⟩) (World.block_lt_of_cell? _ _ h.m7) (fun t => t)).trans h.m7, h.ra.keep (by omega) hf, h.rb.keep (by omega) hf, h.rw.keep (by omega) hf, h.na, h.nb, h.nw, h.ln⟩

theorem AskJ.turn {w u u' : World} {gi n : Nat} {aa ab aw : Option Addr} {ca ga cb gb cw gw : Nat} {P : List (Jn × Int)} {vs vs' : List Value} (h : AskJ w u gi n aa ab aw ca ga cb gb cw gw P vs) (hf : Fr (fun q => q = ga ∧ 0 < ca) u u') (hr : KRow u' aa ca ga 7 vs') (hl : vs'.length = P.length * 7) : AskJ w u' gi n aa ab aw ca ga cb gb cw gw P vs' :=
  ⟨h.fr.trans hf (fun q hq e => by have := (h.na e.2).1; omega), (hf.cell (a := ⟨gi, n * 6, none⟩) (World.block_lt_of_cell? _ _ h.m7) (fun e => by have := (h.na e.2).2; have e1 : gi = ga := e.1; omega)).trans h.m7, hr,
   h.rb.stay (fun hc => hf.block _ (h.rb.lt (by omega) hc) (fun e => h.nb e.2 hc e.1.symm)), h.rw.stay (fun hc => hf.block _ (h.rw.lt (by omega) hc) (fun e => h.nw e.2 hc e.1.symm)), h.na, h.nb, h.nw, hl⟩

theorem AskJ.apart {w u u' : World} {gi n : Nat} {aa ab aw : Option Addr} {ca ga cb gb cw gw ga' ca' : Nat} {P : List (Jn × Int)} {vs : List Value} (h : AskJ w u gi n aa ab aw ca ga cb gb cw gw P vs) (hG : Grew u ga ca u' ga' ca') :
    Fr (fun _ => False) w u' ∧ u'.cell? ⟨gi, n * 6, none⟩ = some (.int .i64 (-7)) ∧ KRow u' ab cb gb 7 (pV P) ∧ KRow u' aw cw gw 7 (pV P) := by
  have hf : Fr (fun q => q = ga ∧ 0 < ca) u u' := by
    rcases hG with ⟨_, _, f⟩ | ⟨_, _, f⟩
    · exact f
    · exact f.mono (fun _ _ t => t.elim)
  exact ⟨h.fr.trans hf (fun q hq e => by have := (h.na e.2).1; omega), (hf.cell (a := ⟨gi, n * 6, none⟩) (World.block_lt_of_cell? _ _ h.m7) (fun e => by have := (h.na e.2).2; have e1 : gi = ga := e.1; omega)).trans h.m7,
    h.rb.stay (fun hc => hf.block _ (h.rb.lt (by omega) hc) (fun e => h.nb e.2 hc e.1.symm)), h.rw.stay (fun hc => hf.block _ (h.rw.lt (by omega) hc) (fun e => h.nw e.2 hc e.1.symm))⟩

set_option maxHeartbeats 8000000 in
set_option maxRecDepth 20000 in
theorem asks_walkF (w : World) (A : Ad) (t : Tf) (h : TAt w A t) (ao0 : Option Addr) (cap0 : Nat) (l : List Jn) (hl : CAt w ao0 (jV l)) (hn : (l.length + 1) * 48 ≤ 140737488355328) (j : Jn) :
    Calls Try.prog 3 #[tv A t, .slice ao0 l.length cap0, .agg (jC j)] w fun e w' => e = .returned (.bool true) ∧ Fr (fun _ => False) w w' := by
  have H := hide h
  have HL := hide (fun (u : World) (hu : Fr (fun _ => False) w u) => hl.keep hu)
  obtain ⟨jj, hjj⟩ : ∃ jj, jj = j := ⟨_, rfl⟩
  rw [← hjj]
  clear hjj j
  obtain ⟨v, hv⟩ : ∃ v, v = (w.alloc (.cells (tc A t) 27)).alloc (.cells (jC jj) 30) := ⟨_, rfl⟩
  have HF : Hid (Fr (fun _ => False) w v) := hide (by rw [hv]; exact ((Fr.refl _ w).alloc _).alloc _)
  have hTB : TB v w.heap.size A t := by rw [hv]; exact (TB.new w A t).keep ((Fr.refl _ _).alloc _)
  have hJ : Bx v (w.heap.size + 1) (jC jj) 30 := by
    rw [hv, ← heap_alloc w (.cells (tc A t) 27)]; exact Bx.new _ _ _
  obtain ⟨B, hB⟩ : ∃ B, B = w.heap.size := ⟨_, rfl⟩
  rw [← hB] at hTB hJ
  have HTB := hide hTB
  have HJ := hide hJ
  have HV := hide hv
  have HB := hide hB
  have HNN := hide hn
  clear hv hB hTB hJ h hl hn
  unfold tv
  unfold tc jC at HV ⊢
  go_enter Try.func3, Try.ntmps3
  go_upto_region 1 with (fail)
  rw [← unhide HV, ← unhide HB]
  clear HV
  go_wp2_with fail
  refine (awake_anyF v).mono ?_
  rintro e w1 ⟨rfl, hF⟩
  replace HF := hide ((unhide HF).trans hF (fun _ _ t => t))
  replace HTB := hide ((unhide HTB).keep hF)
  replace HJ := hide ((unhide HJ).keep hF)
  clear hF
  go_wp2_with (refine wpList_load_tariff rfl (.tmp 3) rfl (g := B) (A := A) (t := t) rfl (unhide HTB) ?_)
  refine (lent_anyT w1 A t ((unhide H).keep (unhide HF))).mono ?_
  rintro e w2 ⟨A', gS, gP, gB, rfl, hLt⟩
  have HT := hide (hLt.tat ((unhide H).keep (unhide HF)))
  have HK := hide hLt.kp
  have HQ : Hid (w.heap.size ≤ gS ∧ w.heap.size ≤ gP ∧ w.heap.size ≤ gB ∧ B + 1 < gS ∧ B + 1 < gP ∧ B + 1 < gB ∧ gS < w2.heap.size ∧ gP < w2.heap.size ∧ gB < w2.heap.size) := hide (by
    have a0 := (unhide HF).size
    have a1 := hLt.oS.new
    have a2 := hLt.oP.new
    have a3 := hLt.oB.new
    have a4 := (unhide HJ).lt
    have a5 := hLt.oS.row.lt (by omega) hLt.oS.pos
    have a6 := hLt.oP.row.lt (by omega) hLt.oP.pos
    have a7 := hLt.oB.row.lt (by omega) hLt.oB.pos
    exact ⟨by omega, by omega, by omega, by omega, by omega, by omega, a5, a6, a7⟩)
  have hF := hLt.fr
  clear hLt
  replace HF := hide ((unhide HF).trans hF (fun _ _ t => t))
  replace HTB := hide ((unhide HTB).keep hF)
  replace HJ := hide ((unhide HJ).keep hF)
  clear hF
  obtain ⟨M, HME⟩ : ∃ M, Hid (M = w2.heap.size) := ⟨_, hide rfl⟩
  have HG : Hid ((w2.alloc (.cells #[.slice none 0 0, .slice none 0 0, .slice none 0 0, .float .f64 0, .int .i64 0, .int .i64 0, .int .i64 0, .int .i64 0, .int .i64 0, .int .i64 0, .int .i64 0, .int .i64 0, .int .i64 0, .int .i64 0] 27)).heap[M]? = some (.cells #[.slice none 0 0, .slice none 0 0, .slice none 0 0, .float .f64 0, .int .i64 0, .int .i64 0, .int .i64 0, .int .i64 0, .int .i64 0, .int .i64 0, .int .i64 0, .int .i64 0, .int .i64 0, .int .i64 0] 27 (0, 0))) := hide (by rw [unhide HME]; exact heap_new _ _)
  obtain ⟨v2, HV2⟩ : ∃ v2, Hid (v2 = (w2.alloc (.cells #[.slice none 0 0, .slice none 0 0, .slice none 0 0, .float .f64 0, .int .i64 0, .int .i64 0, .int .i64 0, .int .i64 0, .int .i64 0, .int .i64 0, .int .i64 0, .int .i64 0, .int .i64 0, .int .i64 0] 27)).setRow M (tc A' t)) := ⟨_, hide rfl⟩
  have hF : Fr (fun _ => False) w2 v2 := by rw [unhide HV2]; exact ((Fr.refl _ w2).alloc _).setRow (fun h => absurd h (by rw [unhide HME]; omega)) _
  have HM : Hid (TB v2 M A' t) := hide (by rw [unhide HV2]; exact TB.set (unhide HG) A' t)
  replace HF := hide ((unhide HF).trans hF (fun _ _ t => t))
  replace HTB := hide ((unhide HTB).keep hF)
  replace HJ := hide ((unhide HJ).keep hF)
  replace HT := hide ((unhide HT).keep hF)
  replace HK := hide ((unhide HK).keep hF)
  clear hF
  go_upto_region 3 with (rw [← unhide HME]; refine wpList_store_tariff rfl (.tmp 8) (.tmp 27) rfl (g := M) (A := A') (t := t) rfl rfl _ (unhide HG) rfl ?_)
  rw [← unhide HV2]
  clear HV2 HG
  obtain ⟨info, hi, hzz⟩ := Option.map_eq_some_iff.1 jInfo
  simp only [Prod.mk.injEq] at hzz
  obtain ⟨hz0, hs, hy⟩ := hzz
  obtain ⟨z, hz, hzc⟩ := Option.map_eq_some_iff.1 hz0
  have HIN : Hid (Try.prog.info? 30 = some info ∧ info.zero = some z ∧ z.cells.size = 6 ∧ info.size = 6 ∧ info.bytes = 48) := hide ⟨hi, hz, by rw [hzc]; rfl, hs, hy⟩
  have hmk : ∀ u : World, (Instr.makeSlice 28 (.int .i64 0) (.int .i64 ((l.length : Int) + 1))).run Try.prog u = .ok (.slice (some ⟨u.heap.size, 0, none⟩) 0 (l.length + 1)) (u.alloc (.cells (madeCells z.cells ((l.length + 1) * info.size)) 30)) := fun u => by
    have hbb := unhide HNN
    have := run_make (P := Try.prog) u 28 30 info z Try.underlying28 hi hz .i64 .i64 0 ((l.length : Int) + 1) (by omega) (by omega) (by rw [hy]; omega) (by omega)
    rw [show ((l.length : Int) + 1).toNat = l.length + 1 by omega, show (0 : Int).toNat = 0 from rfl] at this
    exact this
  have HM0 := hide (fun (u : World) => KRow.made0 u z.cells (l.length + 1) 6 ((l.length + 1) * info.size) (by rw [hs]) (by have hbb := unhide HNN; simp only [maxLen]; omega) 30)
  have HLN : Hid (l.length + 1 ≤ 140737488355328) := hide (by have := unhide HNN; omega)
  have hln : (l.length : Int) + 1 ≤ 140737488355328 := by have := unhide HLN; omega
  generalize madeCells z.cells ((l.length + 1) * info.size) = mc at *
  clear hz0 hs hy hz hzc hi
  have HIA := hide ((unhide HM0 v2))
  have HFA : Hid (Fr (fun _ => False) v2 (v2.alloc (.cells mc 30))) := hide ((Fr.refl _ v2).alloc _)
  have hsr := CAt.src (unhide HL _ ((unhide HF).trans (unhide HFA) (fun _ _ t => t))) 28 30 6 l.length cap0 (by omega) Try.underlying28 (jV_length _) (jV_one _)
  have HSR := hide hsr
  clear hsr HM0
  obtain ⟨gi, HGI⟩ : ∃ gi, Hid (gi = v2.heap.size) := ⟨_, hide rfl⟩
  go_wp2_with (at_builtin; refine wpList_append_krow _ rfl (.tmp 31) (.tmp 32) 28 28 rfl 30 info _ 6 (by omega) Try.underlying28 (unhide HIN).1 (unhide HIN).2.1 (unhide HIN).2.2.1 (unhide HIN).2.2.2.1 rfl (unhide HIA) rfl _ (jV l) l.length rfl (unhide HSR) (by rw [(unhide HIN).2.2.2.2]; have := unhide HNN; omega) (by have := unhide HLN; omega) ?_)
  intro ao1 cap1 w3 g1 hK hG
  have hF : Fr (fun _ => False) v2 w3 := by
    rcases hG with ⟨_, _, f⟩ | ⟨_, _, f⟩
    · exact (unhide HFA).trans f (fun q hq e => by have := e.1; omega)
    · exact (unhide HFA).trans f (fun _ _ t => t)
  have HG1 : Hid (v2.heap.size ≤ g1 ∧ 0 < cap1) := hide (by
    have hs := (unhide HFA).size
    rcases hG with ⟨e1, e2, _⟩ | ⟨e1, e2, _⟩
    · exact ⟨by omega, by omega⟩
    · exact ⟨by omega, e2⟩)
  have HI0 := hide hK
  clear hK hG HIA HSR HFA hmk hln HGI gi
  have HQ2 : Hid (gS < v2.heap.size ∧ gP < v2.heap.size ∧ gB < v2.heap.size ∧ M < v2.heap.size) := hide (by have := unhide HQ; have := hF.size; have a := (unhide HM).lt; have b := (unhide HK).rS.lt (by omega) (unhide HK).pS; have c := (unhide HK).rP.lt (by omega) (unhide HK).pP; have d := (unhide HK).rB.lt (by omega) (unhide HK).pB; exact ⟨b, c, d, a⟩)
  obtain ⟨S2, HS2⟩ : ∃ S2, Hid (S2 = v2.heap.size) := ⟨_, hide rfl⟩
  rw [← unhide HS2] at HG1 HQ2
  clear HS2
  replace HF := hide ((unhide HF).trans hF (fun _ _ t => t))
  replace HTB := hide ((unhide HTB).keep hF)
  replace HJ := hide ((unhide HJ).keep hF)
  replace HT := hide ((unhide HT).keep hF)
  replace HK := hide ((unhide HK).keep hF)
  replace HM := hide ((unhide HM).keep hF)
  clear hF
  have HIA := hide ((unhide HI0).keep (by omega) ((Fr.refl (fun _ => False) w3).alloc (.cells #[.int .i64 (-7), .int .i64 0, .int .i64 0, .int .i64 0, .int .i64 0, .bool false] 30)))
  have HFA : Hid (Fr (fun _ => False) w3 (w3.alloc (.cells #[.int .i64 (-7), .int .i64 0, .int .i64 0, .int .i64 0, .int .i64 0, .bool false] 30))) := hide ((Fr.refl _ w3).alloc _)
  have HSR := hide (src_new' w3 (jL mk7) 28 30 6 Try.underlying28 rfl (jL_one _) (W := w3.alloc (.cells #[.int .i64 (-7), .int .i64 0, .int .i64 0, .int .i64 0, .int .i64 0, .bool false] 30)) (fun j => by rw [World.cell?_alloc_new]; exact List.getElem?_toArray.symm ▸ rfl))
  have HI0' := HI0
  clear HI0
  go_wp2_with (at_builtin; refine wpList_append_krow _ rfl (.tmp 33) (.tmp 35) 28 28 rfl 30 info _ 6 (by omega) Try.underlying28 (unhide HIN).1 (unhide HIN).2.1 (unhide HIN).2.2.1 (unhide HIN).2.2.2.1 rfl (unhide HIA) (jV_length l) _ (jL mk7) 1 rfl (unhide HSR) (by rw [(unhide HIN).2.2.2.2]; have := unhide HNN; omega) (by have := unhide HLN; omega) ?_)
  intro ao2 cap2 w4 g2 hK hG
  have hS : Fr (fun q => q = g1) w3 w4 := by
    rcases hG with ⟨_, _, f⟩ | ⟨_, _, f⟩
    · exact (((unhide HFA).mono (fun _ _ t => t.elim)).trans f (fun q _ e => e.1))
    · exact ((unhide HFA).trans f (fun _ _ t => t)).mono (fun _ _ t => t.elim)
  have HG2 : Hid (S2 ≤ g2 ∧ 0 < cap2) := hide (by
    have hs := (unhide HFA).size
    have := unhide HG1
    have := (unhide HI0').lt (by omega) this.2
    rcases hG with ⟨e1, e2, _⟩ | ⟨e1, e2, _⟩
    · exact ⟨by omega, by omega⟩
    · exact ⟨by omega, e2⟩)
  have HI : Hid (KRow w4 ao2 cap2 g2 6 (jV (l ++ [mk7]))) := hide (by rw [jV_snoc]; exact hK)
  have hq := unhide HQ2
  have hg := (unhide HG1).1
  have hwq := unhide HQ
  have hB1 := unhide HB
  have hjl := (unhide HJ).lt
  replace HF : Hid (Fr (fun _ => False) w w4) := hide ((unhide HF).trans hS (fun q hq' e => by omega))
  replace HTB := hide ((unhide HTB).frame hS (by omega))
  replace HJ := hide ((unhide HJ).frame hS (by omega))
  replace HM := hide ((unhide HM).frame hS (by omega))
  replace HK := hide ((unhide HK).frame hS (by omega) (by omega) (by omega))
  replace HT := hide ((unhide HK).tat (unhide H))
  clear hS hK hG hq hg hwq hB1 hjl HIA HSR HFA HI0' HG1 HIN
  obtain rfl : ao2 = some ⟨g2, 0, none⟩ := (unhide HI).ad (unhide HG2).2
  have R4 := fof_any w4 A' t (unhide HT) jj
  obtain ⟨fv, hfv⟩ : ∃ fv, fareV t jj = fv := ⟨_, rfl⟩
  rw [hfv] at R4
  have HFV := hide hfv
  clear hfv
  obtain ⟨f1, f2⟩ := fv
  go_wp2_with (first | refine wpList_load_tariff rfl (.tmp 8) rfl (g := M) (A := A') (t := t) rfl (unhide HM) ?_ | refine wpList_load_journey rfl (.tmp 5) rfl (g := B + 1) (j := jj) rfl (unhide HJ) ?_)
  refine R4.mono ?_
  rintro e w5 ⟨rfl, hF⟩
  clear R4
  replace HF := hide ((unhide HF).trans hF (fun _ _ t => t))
  replace HTB := hide ((unhide HTB).keep hF)
  replace HJ := hide ((unhide HJ).keep hF)
  replace HM := hide ((unhide HM).keep hF)
  replace HT := hide ((unhide HT).keep hF)
  replace HK := hide ((unhide HK).keep hF)
  replace HI := hide ((unhide HI).keep (by omega) hF)
  clear hF
  have HIF : Hid (CAt w5 (some ⟨g2, 0, none⟩) (jV l)) := hide (KRow.front (us := jL mk7) (by rw [← jV_snoc]; exact unhide HI) (unhide HG2).2)
  have hsl := fun u => slice_uptoJ g2 l.length (l.length + 1) cap2 (by have a := (unhide HI).le; rw [jV_length, List.length_append, List.length_singleton] at a; omega) (unhide HG2).2 u
  obtain ⟨P, hP⟩ : ∃ P, allL t l = P := ⟨_, rfl⟩
  obtain ⟨E, hE⟩ : ∃ E, allE t l = E := ⟨_, rfl⟩
  have HPE := And.intro hP hE
  have HP2 : Hid (P.length ≤ 2000) := hide (by rw [← hP]; exact allL_le t l)
  clear hP hE
  have RA := hide (fun (u : World) (hu : Fr (fun _ => False) w5 u) => fall_any u A' t ((unhide HT).keep hu) (some ⟨g2, 0, none⟩) cap2 l (((unhide HIF).keep hu)))
  have HCB : Hid (∀ u, Fr (fun _ => False) w5 u → u.cell? ⟨M, 0, none⟩ = some (.slice A'.aS t.st.length A'.cS) ∧ u.cell? ⟨M, 1, none⟩ = some (.slice A'.aP t.sp.length A'.cP) ∧ u.cell? ⟨M, 2, none⟩ = some (.slice A'.aB t.bd.length A'.cB) ∧ u.cell? ⟨M, 3, none⟩ = some (.float .f64 t.off) ∧ u.cell? ⟨M, 4, none⟩ = some (.int .i64 t.bus) ∧ u.cell? ⟨M, 5, none⟩ = some (.int .i64 t.busDaily) ∧ u.cell? ⟨M, 6, none⟩ = some (.int .i64 t.busWeekly) ∧ u.cell? ⟨M, 7, none⟩ = some (.int .i64 t.hopper) ∧ u.cell? ⟨M, 8, none⟩ = some (.int .i64 t.most) ∧ u.cell? ⟨M, 9, none⟩ = some (.int .i64 t.longest) ∧ u.cell? ⟨M, 10, none⟩ = some (.int .i64 t.change) ∧ u.cell? ⟨M, 11, none⟩ = some (.int .i64 t.passback) ∧ u.cell? ⟨M, 12, none⟩ = some (.int .i64 t.delay) ∧ u.cell? ⟨M, 13, none⟩ = some (.int .i64 t.threshold)) := hide (fun u hf => by
    have h1 := (unhide HM).keep hf
    exact ⟨h1.cell 0, h1.cell 1, h1.cell 2, h1.cell 3, h1.cell 4, h1.cell 5, h1.cell 6, h1.cell 7, h1.cell 8, h1.cell 9, h1.cell 10, h1.cell 11, h1.cell 12, h1.cell 13⟩)
  obtain ⟨d0, d1, d2, d3, d4, d5, d6, d7, d8, d9, d10, d11, d12, d13⟩ := unhide HCB w5 (Fr.refl _ _)
  unfold tv tc at RA
  go_upto_region 5 with (fail)
  go_cut [43, 12, 13] from 44 to 51 (fun _ av ev wd => ∃ aa ca ga, av = .slice aa P.length ca ∧ ev = .int .i64 E ∧ Hid (KRow wd aa ca ga 7 (pV P) ∧ (0 < ca → w5.heap.size ≤ ga) ∧ Fr (fun _ => False) w5 wd))
  case first => as_aux_lemma =>
    go_region_held3 (fun u => u.cell? ⟨M, 0, none⟩ = some (.slice A'.aS t.st.length A'.cS) ∧ u.cell? ⟨M, 1, none⟩ = some (.slice A'.aP t.sp.length A'.cP) ∧ u.cell? ⟨M, 2, none⟩ = some (.slice A'.aB t.bd.length A'.cB) ∧ u.cell? ⟨M, 3, none⟩ = some (.float .f64 t.off) ∧ u.cell? ⟨M, 4, none⟩ = some (.int .i64 t.bus) ∧ u.cell? ⟨M, 5, none⟩ = some (.int .i64 t.busDaily) ∧ u.cell? ⟨M, 6, none⟩ = some (.int .i64 t.busWeekly) ∧ u.cell? ⟨M, 7, none⟩ = some (.int .i64 t.hopper) ∧ u.cell? ⟨M, 8, none⟩ = some (.int .i64 t.most) ∧ u.cell? ⟨M, 9, none⟩ = some (.int .i64 t.longest) ∧ u.cell? ⟨M, 10, none⟩ = some (.int .i64 t.change) ∧ u.cell? ⟨M, 11, none⟩ = some (.int .i64 t.passback) ∧ u.cell? ⟨M, 12, none⟩ = some (.int .i64 t.delay) ∧ u.cell? ⟨M, 13, none⟩ = some (.int .i64 t.threshold))
      ((refine unhide HCB _ ?_; repeat (first | (with_reducible exact Fr.refl _ _) | (with_reducible refine Fr.drew ?_) | (with_reducible refine Fr.trans ?_ (unhide HA) (fun _ _ t => t)))))
      ((go_at_call 9; refine (unhide RA _ (by repeat (first | (with_reducible exact Fr.refl _ _) | (with_reducible refine Fr.drew ?_)))).mono ?_; rintro e wa ⟨aa, ca, ga, rfl, hKa, hga, hA⟩; rw [HPE.1, HPE.2] at *; have HA := hide hA; have HKA := hide hKa; have HGA := hide hga; clear hA hKa hga))
    all_goals
      go_wp2_with fail
      go_meet
      exact ⟨aa, ca, ga, rfl, rfl, hide ⟨by first | exact unhide HKA | exact (unhide HKA).keep (by omega) ((Fr.refl _ _).drew), fun hc => (by have := unhide HGA hc; first | exact this | (simp at this ⊢; omega)), (by repeat (first | (with_reducible exact Fr.refl _ _) | (with_reducible refine Fr.drew ?_) | (with_reducible refine Fr.trans ?_ (unhide HA) (fun _ _ t => t))))⟩⟩
  case rest =>
    obtain ⟨aa, ca, ga, rfl, rfl, HC⟩ := hcut
    obtain ⟨w6, hw6⟩ : ∃ x, x = wc := ⟨_, rfl⟩
    subst hw6
    obtain ⟨hKa, hga, hF⟩ := unhide HC
    have HAa := hide hKa
    have HGA : Hid (0 < ca → g2 < ga) := hide (fun hc => by have := hga hc; have := (unhide HI).lt (by omega) (unhide HG2).2; omega)
    clear hKa hga HC RA HCB d0 d1 d2 d3 d4 d5 d6 d7 d8 d9 d10 d11 d12 d13
    replace HIF := hide ((unhide HIF).keep hF)
    replace HF := hide ((unhide HF).trans hF (fun _ _ t => t))
    replace HTB := hide ((unhide HTB).keep hF)
    replace HJ := hide ((unhide HJ).keep hF)
    replace HM := hide ((unhide HM).keep hF)
    replace HT := hide ((unhide HT).keep hF)
    replace HK := hide ((unhide HK).keep hF)
    replace HI := hide ((unhide HI).keep (by omega) hF)
    clear hF
    have RA := hide (fun (u : World) (hu : Fr (fun _ => False) w6 u) => fall_any u A' t ((unhide HT).keep hu) (some ⟨g2, 0, none⟩) cap2 l (((unhide HIF).keep hu)))
    have HCB : Hid (∀ u, Fr (fun _ => False) w6 u → u.cell? ⟨M, 0, none⟩ = some (.slice A'.aS t.st.length A'.cS) ∧ u.cell? ⟨M, 1, none⟩ = some (.slice A'.aP t.sp.length A'.cP) ∧ u.cell? ⟨M, 2, none⟩ = some (.slice A'.aB t.bd.length A'.cB) ∧ u.cell? ⟨M, 3, none⟩ = some (.float .f64 t.off) ∧ u.cell? ⟨M, 4, none⟩ = some (.int .i64 t.bus) ∧ u.cell? ⟨M, 5, none⟩ = some (.int .i64 t.busDaily) ∧ u.cell? ⟨M, 6, none⟩ = some (.int .i64 t.busWeekly) ∧ u.cell? ⟨M, 7, none⟩ = some (.int .i64 t.hopper) ∧ u.cell? ⟨M, 8, none⟩ = some (.int .i64 t.most) ∧ u.cell? ⟨M, 9, none⟩ = some (.int .i64 t.longest) ∧ u.cell? ⟨M, 10, none⟩ = some (.int .i64 t.change) ∧ u.cell? ⟨M, 11, none⟩ = some (.int .i64 t.passback) ∧ u.cell? ⟨M, 12, none⟩ = some (.int .i64 t.delay) ∧ u.cell? ⟨M, 13, none⟩ = some (.int .i64 t.threshold)) := hide (fun u hf => by
      have h1 := (unhide HM).keep hf
      exact ⟨h1.cell 0, h1.cell 1, h1.cell 2, h1.cell 3, h1.cell 4, h1.cell 5, h1.cell 6, h1.cell 7, h1.cell 8, h1.cell 9, h1.cell 10, h1.cell 11, h1.cell 12, h1.cell 13⟩)
    obtain ⟨d0, d1, d2, d3, d4, d5, d6, d7, d8, d9, d10, d11, d12, d13⟩ := unhide HCB w6 (Fr.refl _ _)
    unfold tv tc at RA
    go_upto_region 6 with (fail)
    go_cut [52, 14, 15] from 53 to 60 (fun _ av ev wd => ∃ aa ca ga, av = .slice aa P.length ca ∧ ev = .int .i64 E ∧ Hid (KRow wd aa ca ga 7 (pV P) ∧ (0 < ca → w6.heap.size ≤ ga) ∧ Fr (fun _ => False) w6 wd))
    case first => as_aux_lemma =>
      go_region_held3 (fun u => u.cell? ⟨M, 0, none⟩ = some (.slice A'.aS t.st.length A'.cS) ∧ u.cell? ⟨M, 1, none⟩ = some (.slice A'.aP t.sp.length A'.cP) ∧ u.cell? ⟨M, 2, none⟩ = some (.slice A'.aB t.bd.length A'.cB) ∧ u.cell? ⟨M, 3, none⟩ = some (.float .f64 t.off) ∧ u.cell? ⟨M, 4, none⟩ = some (.int .i64 t.bus) ∧ u.cell? ⟨M, 5, none⟩ = some (.int .i64 t.busDaily) ∧ u.cell? ⟨M, 6, none⟩ = some (.int .i64 t.busWeekly) ∧ u.cell? ⟨M, 7, none⟩ = some (.int .i64 t.hopper) ∧ u.cell? ⟨M, 8, none⟩ = some (.int .i64 t.most) ∧ u.cell? ⟨M, 9, none⟩ = some (.int .i64 t.longest) ∧ u.cell? ⟨M, 10, none⟩ = some (.int .i64 t.change) ∧ u.cell? ⟨M, 11, none⟩ = some (.int .i64 t.passback) ∧ u.cell? ⟨M, 12, none⟩ = some (.int .i64 t.delay) ∧ u.cell? ⟨M, 13, none⟩ = some (.int .i64 t.threshold))
        ((refine unhide HCB _ ?_; repeat (first | (with_reducible exact Fr.refl _ _) | (with_reducible refine Fr.drew ?_) | (with_reducible refine Fr.trans ?_ (unhide HA) (fun _ _ t => t)))))
        ((go_at_call 9; refine (unhide RA _ (by repeat (first | (with_reducible exact Fr.refl _ _) | (with_reducible refine Fr.drew ?_)))).mono ?_; rintro e wa ⟨aa, ca, ga, rfl, hKa, hga, hA⟩; rw [HPE.1, HPE.2] at *; have HA := hide hA; have HKA := hide hKa; have HGA := hide hga; clear hA hKa hga))
      all_goals
        go_wp2_with fail
        go_meet
        exact ⟨aa, ca, ga, rfl, rfl, hide ⟨by first | exact unhide HKA | exact (unhide HKA).keep (by omega) ((Fr.refl _ _).drew), fun hc => (by have := unhide HGA hc; first | exact this | (simp at this ⊢; omega)), (by repeat (first | (with_reducible exact Fr.refl _ _) | (with_reducible refine Fr.drew ?_) | (with_reducible refine Fr.trans ?_ (unhide HA) (fun _ _ t => t))))⟩⟩
    case rest =>
      obtain ⟨ab, cb, gb, rfl, rfl, HC⟩ := hcut
      obtain ⟨w7, hw7⟩ : ∃ x, x = wc := ⟨_, rfl⟩
      subst hw7
      obtain ⟨hKa, hga, hF⟩ := unhide HC
      have HAb := hide hKa
      have HGB : Hid (0 < cb → g2 < gb ∧ (0 < ca → ga ≠ gb)) := hide (fun hc => by have := hga hc; have := (unhide HI).lt (by omega) (unhide HG2).2; exact ⟨by omega, fun hca => by have := (unhide HAa).lt (by omega) hca; omega⟩)
      clear hKa hga HC RA HCB HIF hsl d0 d1 d2 d3 d4 d5 d6 d7 d8 d9 d10 d11 d12 d13
      replace HF := hide ((unhide HF).trans hF (fun _ _ t => t))
      replace HTB := hide ((unhide HTB).keep hF)
      replace HJ := hide ((unhide HJ).keep hF)
      replace HM := hide ((unhide HM).keep hF)
      replace HT := hide ((unhide HT).keep hF)
      replace HK := hide ((unhide HK).keep hF)
      replace HI := hide ((unhide HI).keep (by omega) hF)
      replace HAa := hide ((unhide HAa).keep (by omega) hF)
      clear hF
      have RK := kept_anyT w7 A' A t gS gP gB (unhide HT) ((unhide H).keep (unhide HF)) (unhide HK)
      go_wp2_with (first | refine wpList_load_tariff rfl (.tmp 8) rfl (g := M) (A := A') (t := t) rfl (unhide HM) ?_ | refine wpList_load_tariff rfl (.tmp 3) rfl (g := B) (A := A) (t := t) rfl (unhide HTB) ?_)
      refine RK.mono ?_
      rintro e w8 ⟨rfl, hF⟩
      have hq := unhide HQ
      have hq2 := unhide HQ2
      have hg2 := (unhide HG2).1
      have hbw := unhide HB
      have HV0 : Hid (AskI w w8 B A t jj g2 cap2 (lentAt l 0) aa ab ca ga cb gb P) := hide
        ⟨(unhide HF).trans hF (fun q hq' e => by omega), (unhide HTB).frame hF (by omega), (unhide HJ).frame hF (by omega), (unhide HI).stay (fun hc => hF.block _ ((unhide HI).lt (by omega) hc) (by omega)),
         (unhide HAa).stay (fun hc => hF.block _ ((unhide HAa).lt (by omega) hc) (by have := unhide HGA hc; omega)), (unhide HAb).stay (fun hc => hF.block _ ((unhide HAb).lt (by omega) hc) (by have := (unhide HGB hc).1; omega)), ⟨by omega, by omega⟩, unhide HGA, unhide HGB⟩
      clear hF hq hq2 hg2 hbw HF HTB HJ HM HT HK HI HAa HAb HGA HGB HQ HQ2 RK
      have q1 := egJ
      have q2 := eqJ
      have hln : l.length ≤ 140737488355328 := by have := unhide HLN; omega
      go_wp2
      go_loopw [16, 17] (fun sv iv wr => ∃ i : Nat, i ≤ l.length ∧ sv = .bool true ∧ iv = .int .i64 i ∧ Hid (AskI w wr B A t jj g2 cap2 (lentAt l i) aa ab ca ga cb gb P)) (fun _ iv _ => l.length - (intOf iv).toNat)
      case atStart => exact ⟨0, Nat.zero_le _, rfl, rfl, HV0⟩
      case round =>
        obtain ⟨i, hi, rfl, rfl, HI⟩ := hrel
        clear HV0
        by_cases hil : i < l.length
        · as_aux_lemma =>
          have hlt : (i : Int) < (l.length : Int) := by omega
          have hlt2 : (i : Int) < (l.length : Int) + 1 := by omega
          obtain ⟨b0, off0, hao, k0, k1, k2, k3, k4, k5⟩ := (unhide HL wr (unhide HI).fr).jn hil
          subst hao
          have hga := jV_cellF (unhide HI).inr (lentAt_get l hil)
          generalize hq : l[i] = q at *
          obtain ⟨k, f, o, s, n, r⟩ := q
          simp only at k0 k1 k2 k3 k4 k5
          have a0 : wr.cell? ⟨g2, i * 6, none⟩ = some (.int .i64 k) := hga 0 (by omega) _ rfl
          have a1 : wr.cell? ⟨g2, i * 6 + 1, none⟩ = some (.int .i64 f) := hga 1 (by omega) _ rfl
          have a2 : wr.cell? ⟨g2, i * 6 + 2, none⟩ = some (.int .i64 o) := hga 2 (by omega) _ rfl
          have a3 : wr.cell? ⟨g2, i * 6 + 3, none⟩ = some (.int .i64 s) := hga 3 (by omega) _ rfl
          have a4 : wr.cell? ⟨g2, i * 6 + 4, none⟩ = some (.int .i64 n) := hga 4 (by omega) _ rfl
          have a5 : wr.cell? ⟨g2, i * 6 + 5, none⟩ = some (.bool r) := hga 5 (by omega) _ rfl
          clear hga hq
          go_upto_region 11 with (fail)
          go_cut [16] from 70 to 81 (fun sv wd => sv = .bool true ∧ Hid (Fr (fun _ => False) wr wd))
          case first =>
            go_region_held3 (fun u => u.cell? ⟨g2, i * 6, none⟩ = some (.int .i64 k) ∧ u.cell? ⟨g2, i * 6 + 1, none⟩ = some (.int .i64 f) ∧ u.cell? ⟨g2, i * 6 + 2, none⟩ = some (.int .i64 o) ∧ u.cell? ⟨g2, i * 6 + 3, none⟩ = some (.int .i64 s) ∧ u.cell? ⟨g2, i * 6 + 4, none⟩ = some (.int .i64 n) ∧ u.cell? ⟨g2, i * 6 + 5, none⟩ = some (.bool r) ∧ u.cell? ⟨b0, off0 + i * 6, none⟩ = some (.int .i64 k) ∧ u.cell? ⟨b0, off0 + i * 6 + 1, none⟩ = some (.int .i64 f) ∧ u.cell? ⟨b0, off0 + i * 6 + 2, none⟩ = some (.int .i64 o) ∧ u.cell? ⟨b0, off0 + i * 6 + 3, none⟩ = some (.int .i64 s) ∧ u.cell? ⟨b0, off0 + i * 6 + 4, none⟩ = some (.int .i64 n) ∧ u.cell? ⟨b0, off0 + i * 6 + 5, none⟩ = some (.bool r)) (go_keep) (fail)
            go_wp2_with fail
            go_meet
            exact ⟨rfl, hide (by repeat (first | (with_reducible exact Fr.refl _ _) | (with_reducible refine Fr.drew ?_) | (with_reducible refine Fr.drewN ?_ _)))⟩
          case rest =>
            obtain ⟨rfl, HF2⟩ := hcut
            obtain ⟨wr2, hw⟩ : ∃ x, x = wc := ⟨_, rfl⟩
            subst hw
            have HI2 := hide ((unhide HI).keep (unhide HF2))
            clear HI HF2 a0 a1 a2 a3 a4 a5 k0 k1 k2 k3 k4 k5
            have hroom : ∀ c, c < 6 → (∃ x, wr2.cell? ⟨g2, i * 6 + c, none⟩ = some x) ∧ wr2.frozen? ⟨g2, i * 6 + c, none⟩ = false := fun c hc => by
              have hle := (unhide HI2).inr.le
              rw [jV_length, lentAt_length l hi] at hle
              have := (unhide HI2).inr.room (i * 6 + c) (by omega)
              exact ⟨Option.isSome_iff_exists.1 this.1, this.2⟩
            obtain ⟨⟨x0, r0⟩, f0⟩ := hroom 0 (by omega)
            obtain ⟨⟨x1, r1⟩, f1⟩ := hroom 1 (by omega)
            obtain ⟨⟨x2, r2⟩, f2⟩ := hroom 2 (by omega)
            obtain ⟨⟨x3, r3⟩, f3⟩ := hroom 3 (by omega)
            obtain ⟨⟨x4, r4⟩, f4⟩ := hroom 4 (by omega)
            obtain ⟨⟨x5, r5⟩, f5⟩ := hroom 5 (by omega)
            rw [Nat.add_zero] at r0 f0
            clear hroom
            go_upto_region 10 with (fail)
            obtain ⟨u3, hu3⟩ : ∃ u3, u3 = ((((((wr2.setCell ⟨g2, i * 6, none⟩ (.int .i64 (-8))).setCell ⟨g2, i * 6 + 1, none⟩ (.int .i64 0)).setCell ⟨g2, i * 6 + 2, none⟩ (.int .i64 0)).setCell ⟨g2, i * 6 + 3, none⟩ (.int .i64 0)).setCell ⟨g2, i * 6 + 4, none⟩ (.int .i64 0)).setCell ⟨g2, i * 6 + 5, none⟩ (.bool false)) := ⟨_, rfl⟩
            rw [← hu3]
            have HS1 : Hid (AskI w u3 B A t jj g2 cap2 (lentAt l (i + 1)) aa ab ca ga cb gb P) := hide (by
              refine (unhide HI2).lent ?_ ?_
              · rw [hu3]
                repeat (with_reducible (first | exact Fr.refl _ _ | refine Fr.setOwn ?_ _ _))
              · rw [hu3, ← lentAt_set l hil]
                exact (unhide HI2).inr.setJF (by rw [lentAt_length l hi]; omega) mk8)
            clear hu3 HI2 r0 r1 r2 r3 r4 r5 f0 f1 f2 f3 f4 f5
            go_wp2
            exact ⟨⟨i + 1, by omega, rfl, by go_num, HS1⟩, by simp [intOf]; omega⟩
        · obtain rfl : i = l.length := by omega
          have hlt : ¬ (l.length : Int) < (l.length : Int) := by omega
          have HLW := hide (unhide HL wr (unhide HI).fr)
          have R4 := rfof_any wr A t ((unhide H).keep (unhide HI).fr) jj
          rw [unhide HFV] at R4
          have HB1 := hide (unhide HI).tb
          have HB2 := hide (unhide HI).bx
          go_wp2_with (first | refine wpList_load_tariff rfl (.tmp 3) rfl (g := B) (A := A) (t := t) rfl (unhide HB1) ?_ | refine wpList_load_journey rfl (.tmp 5) rfl (g := B + 1) (j := jj) rfl (unhide HB2) ?_)
          refine R4.mono ?_
          rintro e x1 ⟨rfl, hF⟩
          have HI1 := hide ((unhide HI).keep hF)
          clear hF HI HB1 HB2 R4
          have HB1 := hide (unhide HI1).tb
          have R5 := rfall_any x1 A t ((unhide H).keep (unhide HI1).fr) ao0 cap0 l (unhide HL x1 (unhide HI1).fr)
          unfold AllPost at R5
          rw [HPE.1, HPE.2] at R5
          go_wp2_with (refine wpList_load_tariff rfl (.tmp 3) rfl (g := B) (A := A) (t := t) rfl (unhide HB1) ?_)
          refine R5.mono ?_
          rintro e x2 ⟨aw, cw, gw, rfl, hKw, hgw, hF⟩
          have HW0 : Hid (AskJ w x2 g2 l.length aa ab aw ca ga cb gb cw gw P (pV P)) := hide (by
            have k := (unhide HI1).keep hF
            have m := jV_cellF k.inr (lentAt_end l) 0 (by omega) _ rfl
            have hx : ∀ hc : 0 < ca, ga < x1.heap.size := fun hc => (unhide HI1).ra.lt (by omega) hc
            exact ⟨k.fr, m, k.ra, k.rb, hKw, fun hc => ⟨by have := k.na hc; have := k.ni; omega, k.na hc⟩, fun h1 h2 => (k.nb h2).2 h1, fun h1 h2 => by have := hx h1; have := hgw h2; omega, pV_length P⟩)
          clear hF hKw hgw HI1 HB1 R5 HLW HFV H HL
          have R6 := same_anyP x2 aa aw ca cw ga gw P (unhide HW0).ra (unhide HW0).rw (by have := unhide HP2; omega)
          go_wp2_with fail
          refine R6.mono ?_
          rintro e x3 ⟨rfl, hF⟩
          have HW1 : Hid (∃ vs, AskJ w x3 g2 l.length aa ab aw ca ga cb gb cw gw P vs) := hide ⟨_, (unhide HW0).keep hF⟩
          clear hF R6 HW0
          have hpl : P.length ≤ 2000 := unhide HP2
          go_wp2
          go_loopw [23] (fun iv wr => ∃ i : Nat, i ≤ P.length ∧ iv = .int .i64 i ∧ Hid (∃ vs, AskJ w wr g2 l.length aa ab aw ca ga cb gb cw gw P vs)) (fun iv _ => P.length - (intOf iv).toNat)
          case atStart => exact ⟨0, Nat.zero_le _, rfl, HW1⟩
          case round =>
            obtain ⟨i, hi, rfl, HI⟩ := hrel
            clear HW1
            by_cases hil : i < P.length
            · as_aux_lemma =>
              obtain ⟨vs, hv⟩ := unhide HI
              have hlt : (i : Int) < (P.length : Int) := by omega
              have hvl := hv.ln
              have hle := hv.ra.le
              have hca : 0 < ca := by
                rcases Nat.eq_zero_or_pos ca with h | h
                · subst h; omega
                · exact h
              obtain rfl : aa = some ⟨ga, 0, none⟩ := hv.ra.ad hca
              have hroom := hv.ra.room (i * 7 + 6) (by omega)
              obtain ⟨x6, r6⟩ := Option.isSome_iff_exists.1 hroom.1
              have f6 := hroom.2
              have HV := hide hv
              have HX : Hid (i * 7 + 6 < vs.length) := hide (by omega)
              clear hvl hle hroom hv HI
              go_upto_region 18 with (fail)
              obtain ⟨u3, hu3⟩ : ∃ u3, u3 = wr.setCell ⟨ga, i * 7 + 6, none⟩ (.int .i64 (-5)) := ⟨_, rfl⟩
              rw [← hu3]
              have HS1 : Hid (∃ vs, AskJ w u3 g2 l.length (some ⟨ga, 0, none⟩) ab aw ca ga cb gb cw gw P vs) := hide ⟨_, (unhide HV).turn (by rw [hu3]; exact Fr.setCell (Fr.refl _ _) (fun _ => ⟨rfl, hca⟩) _) (by rw [hu3]; exact (unhide HV).ra.setF (i * 7 + 6) (unhide HX) _ rfl) (by rw [List.length_set]; exact (unhide HV).ln)⟩
              clear hu3 HV HX r6 f6 hca
              go_wp2
              exact ⟨⟨i + 1, by omega, by go_num, HS1⟩, by simp [intOf]; omega⟩
            · obtain rfl : i = P.length := by omega
              have hlt : ¬ (P.length : Int) < (P.length : Int) := by omega
              obtain ⟨vs, hv⟩ := unhide HI
              obtain ⟨info, hi2, hzz⟩ := Option.map_eq_some_iff.1 pInfo
              simp only [Prod.mk.injEq] at hzz
              obtain ⟨hz0, hs, hy⟩ := hzz
              obtain ⟨z, hz, hzc⟩ := Option.map_eq_some_iff.1 hz0
              have HIN : Hid (Try.prog.info? 42 = some info ∧ info.zero = some z ∧ z.cells.size = 7 ∧ info.size = 7 ∧ info.bytes = 56) := hide ⟨hi2, hz, by rw [hzc]; rfl, hs, hy⟩
              have hal : Fr (fun _ => False) wr (wr.alloc (.cells #[.int .i64 0, .int .i64 0, .int .i64 0, .int .i64 0, .int .i64 0, .bool false, .int .i64 (-6)] 42)) := (Fr.refl _ wr).alloc _
              have HAL := hide hal
              have HK3 := hide (hv.keep hal)
              have HSR := hide (src_new' wr (pL (⟨0, 0, 0, 0, 0, false⟩, -6)) 36 42 7 Try.underlying36 rfl (pL_one _) (W := wr.alloc (.cells #[.int .i64 0, .int .i64 0, .int .i64 0, .int .i64 0, .int .i64 0, .bool false, .int .i64 (-6)] 42)) (fun j => by rw [World.cell?_alloc_new]; exact List.getElem?_toArray.symm ▸ rfl))
              have hpl1 : P.length + 1 ≤ 2001 := by omega
              clear HI hv hal hz0 hs hy hz hzc hi2
              go_wp2_with (at_builtin; refine wpList_append_krow _ rfl (.tmp 111) (.tmp 113) 36 36 rfl 42 info _ 7 (by omega) Try.underlying36 (unhide HIN).1 (unhide HIN).2.1 (unhide HIN).2.2.1 (unhide HIN).2.2.2.1 rfl (unhide HK3).ra (unhide HK3).ln _ _ 1 rfl (unhide HSR) (by rw [(unhide HIN).2.2.2.2]; omega) (by omega) ?_)
              intro aa' ca' x5 ga' hK hG
              have HT5 := hide ((unhide HK3).apart hG)
              clear hK hG HK3 HSR HAL HIN
              have R7 := same_anyP x5 ab aw cb cw gb gw P (unhide HT5).2.2.1 (unhide HT5).2.2.2 (by omega)
              go_wp2_with fail
              refine R7.mono ?_
              rintro e x6 ⟨rfl, hF⟩
              have m7 : x6.cell? ⟨g2, l.length * 6, none⟩ = some (.int .i64 (-7)) := (hF.cell (a := ⟨g2, l.length * 6, none⟩) (World.block_lt_of_cell? _ _ (unhide HT5).2.1) (fun t => t)).trans (unhide HT5).2.1
              have HFZ := hide ((unhide HT5).1.trans hF (fun _ _ t => t))
              clear hF HT5 R7
              have hlt3 : (l.length : Int) < (l.length : Int) + 1 := by omega
              go_wp2
              go_ret
              exact ⟨by first | rfl | simp, unhide HFZ⟩

end Go.Proofs.Ytmgejkenpfihmaa

