import Derived.Test.YtlhgfnpialndaaaDB0
import Derived.Test.YtlhgfnpialndaaaN7
import Derived.Maps.OwnOps
import Derived.Maps.OwnSet
/- A book in memory: its map; New, mayBe, owed. -/
namespace Go.Proofs.Ytlhgfnpialndaaa
open Go.RowKit Go.Maps Go.WideElems Go.ChangeMaps Go.WideMaps

theorem keyedS : Keyed Try.prog 9 := string_keyed Try.underlying9

/-- The map in block b holds these accounts. -/
def AM (w : World) (b : Nat) (l : List Ac) : Prop := w.ownsMap Try.prog 9 acR b l.length (.map (dlK l)) ∧ Rk l

theorem AM.lt {w : World} {b : Nat} {l : List Ac} (h : AM w b l) : b < w.heap.size := h.1.lt
theorem AM.frame {S : Nat → Prop} {w w' : World} {b : Nat} {l : List Ac} (h : AM w b l) (k : Fr S w w') (hS : ¬ S b) : AM w' b l := by
  obtain ⟨h1, h2⟩ := h
  have hlt := h1.lt
  obtain ⟨es, clock, hb, r⟩ := h1
  exact ⟨⟨es, clock, (k.block b hlt hS).trans hb, r⟩, h2⟩
theorem AM.made (w : World) : AM (w.alloc (.map #[] 0)) w.heap.size [] := ⟨World.ownsMap_made w _ _ _, Rk.nil⟩

theorem zero_ac (w : World) : (zeroValue 26).run Try.prog w = .ok (.agg (acC zA)) w := by kernel_rfl

set_option maxRecDepth 20000 in
/-- 'm[q]', in both forms. -/
theorem AM.look_any (c : Bool) {w : World} {b : Nat} {l : List Ac} (h : AM w b l) {q : ByteArray} (hq : q.size ≤ maxLen) :
    (Instr.lookup 56 (.map (some b)) (.string q) c).run Try.prog w = .ok (if c then .tuple #[.agg (acC (getK l q)), .bool (atK l q).isSome] else .agg (acC (getK l q))) w := by
  obtain ⟨⟨es, clock, hb, F, _, hD⟩, _⟩ := h
  rcases fit_look c keyedS Try.underlying56 (zero_ac w) hb F (keyOf_string_mk Try.underlying9 hq) with ⟨hrun, _, hat⟩ | ⟨e0, y, he0, hek, hrun, hy, hat, _⟩
  · rw [hrun]
    rw [← hD] at hat
    unfold getK
    cases hs : atK l q with
    | none => rfl
    | some a =>
      have h5 := hat .nil
      rw [dlK_at, hs] at h5
      cases h5
  · rw [hrun]
    rw [← hD] at hat
    obtain ⟨a, hv, rfl⟩ := acR_inv hy
    rw [hv]
    unfold getK
    cases hs : atK l q with
    | none =>
      have h5 := hat .nil
      rw [dlK_at, hs] at h5
      cases h5
    | some a' =>
      have h5 := hat .nil
      rw [dlK_at, hs] at h5
      have h6 : a' = a := acD_inj h5
      rw [h6]
      rfl
theorem AM.look {w : World} {b : Nat} {l : List Ac} (h : AM w b l) {q : ByteArray} (hq : q.size ≤ maxLen) : (Instr.lookup 56 (.map (some b)) (.string q) true).run Try.prog w = .ok (.tuple #[.agg (acC (getK l q)), .bool (atK l q).isSome]) w := h.look_any true hq
theorem AM.look1 {w : World} {b : Nat} {l : List Ac} (h : AM w b l) {q : ByteArray} (hq : q.size ≤ maxLen) : (Instr.lookup 56 (.map (some b)) (.string q) false).run Try.prog w = .ok (.agg (acC (getK l q))) w := h.look_any false hq

theorem own_tight {w : World} {b n : Nat} {es : List (Lit × DataW Unit)} (h : w.ownsMap Try.prog 9 acR b n (.map es)) : w.ownsMap Try.prog 9 acR b es.length (.map es) := by
  obtain ⟨es1, clock, hb, F, _, hD⟩ := h
  refine ⟨es1, clock, hb, F, ?_, hD⟩
  have e1 : es1.size = ((es1.toList.map (rg Try.prog 9 acR)).foldr DataW.insert []).length := by rw [length_sorted]; simp
  injection hD with hD
  rw [e1, ← hD]
  exact Nat.le_refl _

set_option maxRecDepth 20000 in
/-- 'm[t] = x'. -/
theorem AM.put {w : World} {b : Nat} {l : List Ac} (h : AM w b l) {x : Ac} (hx : x.tok.size ≤ maxLen) (hl : l.length < 140737488355328) :
    ∃ w', (Instr.mapUpdate 56 (.map (some b)) (.string x.tok) (.agg (acC x))).run Try.prog w = .ok () w' ∧ AM w' b (putK l x) ∧ Fr (· = b) w w' ∧ w'.heap.size = w.heap.size := by
  obtain ⟨h1, h2⟩ := h
  obtain ⟨w', hrun, r1, r2⟩ := h1.update keyedS Try.underlying56 (by simp only [maxLen]; omega) (keyOf_string_mk Try.underlying9 hx) (acR_ac x)
  have hsz : w'.heap.size = w.heap.size := by
    obtain ⟨es, clock, hb, F, hs, _⟩ := h1
    obtain ⟨es', clock', hrun', _⟩ := fit_store (R' := acR) keyedS Try.underlying56 hb F (by simp only [maxLen]; omega) (fun _ _ _ _ hz => hz) (keyOf_string_mk Try.underlying9 hx) (acR_ac x)
    rw [hrun] at hrun'
    injection hrun' with _ e
    rw [e]
    simp [ChangeMaps.setBlock]
  rw [dlK_put h2] at r1
  have r3 := own_tight r1
  have e : (dlK (putK l x)).length = (putK l x).length := by unfold dlK; rw [List.length_map]
  rw [e] at r3
  exact ⟨w', hrun, ⟨r3, putK_rk h2 x⟩, ⟨r2.os, r2.tape, r2.output, r2.size, fun k hk hS => r2.block k hk (fun e => hS (by injection e))⟩, hsz⟩
theorem AM.len {w : World} {b : Nat} {l : List Ac} (h : AM w b l) (ty : TypeId) : (Builtin.len_ #[56] ty #[.map (some b)]).run Try.prog w = .ok (.int .i64 l.length) w := by
  rw [h.1.len Try.underlying56 ty, dlK_size]

/-- A book in memory. -/
structure BM (w : World) (p b : Nat) (l : List Ac) : Prop where
  bx : Bx w p #[.map (some b)] 58
  mp : AM w b l
  ne : p ≠ b
  bk : Bk l
theorem BM.frame {S : Nat → Prop} {w w' : World} {p b : Nat} {l : List Ac} (h : BM w p b l) (k : Fr S w w') (hp : ¬ S p) (hb : ¬ S b) : BM w' p b l := ⟨h.bx.frame k hp, h.mp.frame k hb, h.ne, h.bk⟩
theorem BM.keep {w w' : World} {p b : Nat} {l : List Ac} (h : BM w p b l) (k : Fr (fun _ => False) w w') : BM w' p b l := h.frame k (fun t => t) (fun t => t)
theorem BM.mlt {w : World} {p b : Nat} {l : List Ac} (h : BM w p b l) : b < w.heap.size := h.mp.lt
theorem BM.plt {w : World} {p b : Nat} {l : List Ac} (h : BM w p b l) : p < w.heap.size := h.bx.lt

theorem bnew_any (w : World) : Calls Try.prog 10 #[] w fun e w' => ∃ p b, e = .returned (.pointer (some ⟨p, 0, none⟩)) ∧ BM w' p b [] ∧ Fr (fun _ => False) w w' ∧ w.heap.size ≤ p ∧ w.heap.size ≤ b := by
  go_enter Try.func10, Try.ntmps10
  have hmk := @run_makeMap Try.prog
  go_wp2
  go_ret
  have hs := AM.made w
  have hbx := Bx.new (w.alloc (.map #[] 0)) #[.map (some w.heap.size)] 58
  rw [heap_alloc] at hbx
  exact ⟨_, _, rfl, ⟨hbx, hs.frame ((Fr.refl (fun _ => False) _).alloc _) (fun t => t), by omega, Bk.nil⟩, ((Fr.refl _ _).alloc _).alloc _, by omega, by omega⟩

theorem account_code (t : Ac) : (accountW t).2 = 0 ↔ accountOk t = true := by
  unfold accountW
  split
  · rename_i h
    have h1 := acc_in h
    have h2 : t.tok.size = 8 := by
      have := h1.1
      unfold isTok at this
      rw [beq_iff_eq] at this
      omega
    have e : ∃ bs, accountB t = some bs := by
      unfold accountB accountK acC
      show ∃ bs, stepW (wFixed t.tok 8) (stepW (wNumber t.charged 8) (stepW (wNumber t.paid 8) (some []))) = some bs
      unfold wFixed wNumber
      have e8 : (256 : Int) ^ (8 : Int).toNat = 18446744073709551616 := by decide
      rw [if_pos (by omega), if_pos (by rw [e8]; omega), if_pos (by rw [e8]; omega)]
      exact ⟨_, rfl⟩
    obtain ⟨bs, e⟩ := e
    rw [e]
    simp [codeOf, h]
  · rename_i h
    simp [h]
set_option maxRecDepth 20000 in
theorem mayb_any (t : Ac) (w : World) : Calls Try.prog 20 #[.agg (acC t)] w fun e w' => e = .returned (.bool (accountOk t)) ∧ Fr (fun _ => False) w w' := by
  have R := hide (recAccount_any t)
  have HC := hide (account_code t)
  generalize (accountW t).1 = bs at *
  generalize (accountW t).2 = c at *
  generalize accountOk t = ok at *
  unfold acC at *
  obtain ⟨tok, charged, paid⟩ := t
  simp only at R ⊢
  go_enter Try.func20, Try.ntmps20
  go_wp2_with fail
  refine (unhide R _).mono ?_
  rintro e w1 ⟨ao, cap, gb, rfl, hr, hn, h2⟩
  have H2 : Hid (Fr (fun _ => False) w w1) := hide (((Fr.refl (fun _ => False) w).alloc _).trans h2 (fun _ _ (t : False) => t.elim))
  clear h2 hr hn
  have hq : ((c : Int) == 0) = ok := by
    have := unhide HC
    rw [Bool.eq_iff_iff, beq_iff_eq]
    exact this
  have HQ := hide hq
  clear hq
  by_cases hc : c = 0
  · have e1 : ok = true := (unhide HC).1 hc
    subst hc e1
    clear HC HQ
    go_wp2
    go_ret
    exact ⟨rfl, unhide H2⟩
  · have e1 : ok = false := by rw [← Bool.not_eq_true]; exact fun t => hc ((unhide HC).2 t)
    subst e1
    have hcc : ((c : Int) == 0) = false := by rw [← Bool.not_eq_true, beq_iff_eq]; exact hc
    clear HC HQ
    go_wp2
    go_ret
    exact ⟨rfl, unhide H2⟩

set_option maxRecDepth 20000 in
theorem owed_any (a : Ac) (h : 0 ≤ a.charged ∧ a.charged ≤ 9007199254740992 ∧ 0 ≤ a.paid ∧ a.paid ≤ a.charged) (w : World) : Calls Try.prog 28 #[.agg (acC a)] w fun e w' => e = .returned (.int .i64 (owedA a)) ∧ Fr (fun _ => False) w w' := by
  obtain ⟨tok, c, p⟩ := a
  simp only at h
  have hw : wrap64 (c - p) = c - p := by unfold wrap64; omega
  have e : owedA ⟨tok, c, p⟩ = c - p := rfl
  rw [e]
  clear e h
  unfold acC
  simp only
  go_enter Try.func28, Try.ntmps28
  go_wp2
  go_ret
  exact ⟨by rw [hw]; rfl, (Fr.refl (fun _ => False) w).alloc _⟩
end Go.Proofs.Ytlhgfnpialndaaa

