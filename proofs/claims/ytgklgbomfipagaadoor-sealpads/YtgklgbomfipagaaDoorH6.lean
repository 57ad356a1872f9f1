/- The contract of Write. -/
import Derived.Test.YtgklgbomfipagaaDoorH5
import Derived.Laws.CopyRow
import Derived.Deep.RegionLaw
import Derived.Deep.RegionWith
namespace Go.Proofs.YtgklgbomfipagaaDoor
open Go.RowKit

theorem absorb_lt (bs : List UInt8) (k j : Nat) : absorb bs k j < 4294967296 := by
  cases k with
  | zero => exact hw0_lt j
  | succ k => exact comp_lt _ _ _

theorem comp_congr (h : Nat → Nat) (b b' : Nat → UInt8) (e : ∀ j, j < 64 → b j = b' j) : comp h b = comp h b' := by
  have hw : wfirst b 16 = wfirst b' 16 := by
    funext j
    unfold wfirst
    by_cases hj : j < 16
    · rw [if_pos hj, if_pos hj, wrd, wrd, e _ (by omega), e _ (by omega), e _ (by omega), e _ (by omega)]
    · rw [if_neg hj, if_neg hj]
  unfold comp spr
  rw [hw]

theorem getD_append_left (a b : List UInt8) (i : Nat) (h : i < a.length) : (a ++ b).getD i 0 = a.getD i 0 := by
  rw [List.getD_eq_getElem?_getD, List.getD_eq_getElem?_getD, List.getElem?_append_left h]
theorem getD_append_right (a b : List UInt8) (i : Nat) (h : a.length ≤ i) : (a ++ b).getD i 0 = b.getD (i - a.length) 0 := by
  rw [List.getD_eq_getElem?_getD, List.getD_eq_getElem?_getD, List.getElem?_append_right h]

theorem absorb_append (bs ms : List UInt8) (k : Nat) (hk : 64 * k ≤ bs.length) : absorb (bs ++ ms) k = absorb bs k := by
  induction k with
  | zero => rfl
  | succ k ih =>
    show comp _ _ = comp _ _
    rw [ih (by omega)]
    exact comp_congr _ _ _ (fun j hj => getD_append_left _ _ _ (by omega))

/-- A block into which bytes were put. -/
def bput (blk : Nat → UInt8) (r : Nat) (ps : List UInt8) (j : Nat) : UInt8 := if r ≤ j ∧ j < r + ps.length then ps.getD (j - r) 0 else blk j

/-- The bytes that stand behind the last whole block. -/
def Rest (bs : List UInt8) (blk : Nat → UInt8) : Prop := ∀ j, j < bs.length % 64 → blk j = bs.getD (64 * (bs.length / 64) + j) 0

theorem bput_is (bs ps : List UInt8) (blk : Nat → UInt8) (h : Rest bs blk) (j : Nat) (hj : j < bs.length % 64 + ps.length) : bput blk (bs.length % 64) ps j = (bs ++ ps).getD (64 * (bs.length / 64) + j) 0 := by
  unfold bput
  by_cases h1 : j < bs.length % 64
  · rw [if_neg (by omega), h j h1, getD_append_left _ _ _ (by omega)]
  · rw [if_pos ⟨by omega, hj⟩, getD_append_right _ _ _ (by omega)]
    congr 1
    omega

theorem rest_some (bs ps : List UInt8) (blk : Nat → UInt8) (h : Rest bs blk) (hl : bs.length % 64 + ps.length < 64) : Rest (bs ++ ps) (bput blk (bs.length % 64) ps) ∧ absorb (bs ++ ps) ((bs ++ ps).length / 64) = absorb bs (bs.length / 64) := by
  have e : (bs ++ ps).length = bs.length + ps.length := List.length_append
  have e2 : (bs ++ ps).length / 64 = bs.length / 64 := by omega
  refine ⟨fun j hj => ?_, ?_⟩
  · rw [e2]
    exact bput_is bs ps blk h j (by omega)
  · rw [e2]
    exact absorb_append bs ps _ (by omega)

theorem rest_whole (bs ps : List UInt8) (blk : Nat → UInt8) (h : Rest bs blk) (hl : bs.length % 64 + ps.length = 64) : (∀ blk', Rest (bs ++ ps) blk') ∧ absorb (bs ++ ps) ((bs ++ ps).length / 64) = comp (absorb bs (bs.length / 64)) (bput blk (bs.length % 64) ps) := by
  have e : (bs ++ ps).length = bs.length + ps.length := List.length_append
  have e2 : (bs ++ ps).length / 64 = bs.length / 64 + 1 := by omega
  refine ⟨fun blk' j hj => absurd hj (by omega), ?_⟩
  rw [e2]
  show comp _ _ = comp _ _
  rw [absorb_append bs ps _ (by omega)]
  exact comp_congr _ _ _ (fun j hj => (bput_is bs ps blk h j (by omega)).symm)

theorem bv_get (ms : List UInt8) (n j : Nat) (hj : j < n) (hn : n ≤ ms.length) : (bytesV (ms.take n))[j]? = some (.int .u8 (ms.getD j 0).toNat) := by
  have hj2 : j < (ms.take n).length := by rw [List.length_take]; omega
  rw [bytesV_get _ _ hj2, List.getElem_take, List.getD_eq_getElem?_getD, List.getElem?_eq_getElem (by omega)]
  rfl

theorem hcell_low (f : Nat → Nat) (blk : Nat → UInt8) (N r : Nat) (ps : List UInt8) (j : Nat) (h1 : j < 8 + r ∨ 8 + r + ps.length ≤ j) : hcell f blk N j = hcell f (bput blk r ps) N j := by
  unfold hcell bput
  by_cases h8 : j < 8
  · rw [if_pos h8, if_pos h8]
  · rw [if_neg h8, if_neg h8]
    by_cases h7 : j < 72
    · rw [if_pos h7, if_pos h7, if_neg (by omega)]
    · rw [if_neg h7, if_neg h7]
theorem hcell_in (f : Nat → Nat) (blk : Nat → UInt8) (N r : Nat) (ps : List UInt8) (j : Nat) (h1 : 8 + r ≤ j) (h2 : j < 8 + r + ps.length) (h3 : j < 72) : hcell f (bput blk r ps) N j = .int .u8 (ps.getD (j - (8 + r)) 0).toNat := by
  unfold hcell bput
  rw [if_neg (by omega), if_pos h3, if_pos (by omega), show j - 8 - r = j - (8 + r) by omega]

theorem splice_get (l m : List Value) (o j : Nat) (ho : o + m.length ≤ l.length) : (l.take o ++ m ++ l.drop (o + m.length))[j]? = if j < o then l[j]? else if j < o + m.length then m[j - o]? else l[j]? := by
  have ht : (l.take o).length = o := by rw [List.length_take]; omega
  by_cases h1 : j < o
  · rw [if_pos h1, List.append_assoc, List.getElem?_append_left (by omega), List.getElem?_take, if_pos h1]
  · rw [if_neg h1]
    by_cases h2 : j < o + m.length
    · rw [if_pos h2, List.getElem?_append_left (by rw [List.length_append, ht]; omega), List.getElem?_append_right (by omega), ht]
    · rw [if_neg h2, List.getElem?_append_right (by rw [List.length_append, ht]; omega), List.length_append, ht, List.getElem?_drop, show o + m.length + (j - (o + m.length)) = j by omega]

theorem splice_hash (f : Nat → Nat) (blk : Nat → UInt8) (N r : Nat) (ps : List UInt8) (hr : r + ps.length ≤ 64) (A : Array Value) (hA : A = arr 73 (hcell f blk N)) :
    (A.toList.take (8 + r) ++ bytesV ps ++ A.toList.drop (8 + r + (bytesV ps).length)).toArray = arr 73 (hcell f (bput blk r ps) N) := by
  have hl : A.toList.length = 73 := by rw [hA, Array.length_toList, arr_size]
  have hg : ∀ i, A.toList[i]? = if i < 73 then some (hcell f blk N i) else none := fun i => by
    rw [Array.getElem?_toList, hA]
    by_cases hi : i < 73
    · rw [if_pos hi, arr_get _ _ _ hi]
    · rw [if_neg hi, Array.getElem?_eq_none (by rw [arr_size]; omega)]
  have hbl := bytesV_length ps
  apply Array.ext_getElem?
  intro j
  rw [List.getElem?_toArray, splice_get _ _ _ _ (by omega), hg j]
  by_cases hj : j < 73
  · rw [arr_get _ _ _ hj, if_pos hj]
    by_cases h1 : j < 8 + r
    · rw [if_pos h1]
      exact congrArg some (hcell_low f blk N r ps j (.inl h1))
    · rw [if_neg h1]
      by_cases h2 : j < 8 + r + (bytesV ps).length
      · rw [if_pos h2, bytesV_get _ _ (by omega)]
        refine congrArg some ?_
        rw [hcell_in f blk N r ps j (by omega) (by omega) (by omega), List.getD_eq_getElem?_getD, List.getElem?_eq_getElem (by omega)]
        rfl
      · rw [if_neg h2]
        exact congrArg some (hcell_low f blk N r ps j (.inr (by omega)))
  · rw [Array.getElem?_eq_none (by rw [arr_size]; omega), if_neg (by omega), if_neg (by omega), if_neg hj]

/-- Bytes are copied into a hash's block, as one step of a region that draws its order. -/
theorem step_copy_hash {ops : Array Oper} {o : Oper} {a : Act} {w : World} {K : Act → World → Prop} {Q : Exit → Act → World → Prop} {E : Prop} (hgd : o.guard = none) (d s : Operand)
    (ho : o.op = .call { callee := .builtin .copy, args := #[d, s], argTypes := #[22, 22] }) (p r : Nat) (f : Nat → Nat) (blk : Nat → UInt8) (N : Nat) (hb : Blk w p 55 73 (hcell f blk N)) (hr : r < 64)
    (c : Nat) (hd : a.eval d = .slice (some ⟨p, 8 + r, none⟩) (64 - r) c) (ao : Option Addr) (cap : Nat) (ms : List UInt8) (hs : a.eval s = .slice ao ms.length cap) (hB : BAt w ao cap ms) (h0 : 0 < ms.length)
    (h : ∀ w', Hid (Blk w' p 55 73 (hcell f (bput blk r (ms.take (64 - r))) N)) → Hid (Fr (fun k => k = p) w w') → K (a.put o.dst (.int .i64 (min ms.length (64 - r) : Nat))) w') :
    if Region.wanted o (yielded ops a.tmps) = true then Oper.wp Tryd.prog o a w K Q else E := by
  have hw : Region.wanted o (yielded ops a.tmps) = true := by simp [Region.wanted, hgd]
  rw [if_pos hw]
  obtain ⟨b, off, rfl, hc⟩ := hB.2.1 h0
  have hlen : (bytesV (ms.take (64 - r))).length = Nat.min ms.length (64 - r) := by
    rw [bytesV_length, List.length_take]; exact Nat.min_comm _ _
  have hmin : Nat.min ms.length (64 - r) ≤ 64 - r := Nat.min_le_right _ _
  have hmin2 : Nat.min ms.length (64 - r) ≤ ms.length := Nat.min_le_left _ _
  have hrun := run_copy_row (P := Tryd.prog) w 22 22 o.type 5 p (8 + r) (64 - r) c ⟨b, off, none⟩ ms.length cap (arr 73 (hcell f blk N)) 55 (bytesV (ms.take (64 - r))) Tryd.underlying22 (by kernel_rfl) hb hlen
    (fun j v hv => by
      have hj : j < (ms.take (64 - r)).length := by
        have := (List.getElem?_eq_some_iff.1 hv).1
        rwa [bytesV_length] at this
      rw [bytesV_get _ _ hj] at hv
      rw [Addr.add_lit, ← hv, List.getElem_take]
      exact hc j (by rw [List.length_take] at hj; omega))
    (by rw [hlen, arr_size]; omega) (bytesV_one _)
  rw [splice_hash f blk N r (ms.take (64 - r)) (by rw [← bytesV_length, hlen]; omega) _ rfl, hlen] at hrun
  unfold Oper.wp
  simp only [execOp, ho, resolve, invoke, builtin, Sem.run_bind, Sem.run_pure, Result.andThen_ok]
  simp [hd, hs, hrun, Result.andThen]
  exact h _ (hb.row _) (Fr.setRow (S := fun k => k = p) (Fr.refl _ w) (g := p) (fun _ => rfl) _)

theorem Blk.size {w : World} {p : Nat} {f : Nat → Nat} {blk : Nat → UInt8} {N : Nat} (h : Blk w p 55 73 (hcell f blk N)) (M : Nat) : Blk (w.setCell ⟨p, 72, none⟩ (.int .i64 M)) p 55 73 (hcell f blk M) := by
  refine (h.set 72 (by omega) (.int .i64 M)).same (fun j hj => ?_)
  unfold hcell
  by_cases e : j = 72
  · subst e; rw [if_pos rfl]; rfl
  · rw [if_neg e]
    by_cases h8 : j < 8
    · rw [if_pos h8, if_pos h8]
    · rw [if_neg h8, if_neg h8, if_pos (by omega), if_pos (by omega)]

/-- Words of which the first i are new. -/
def mixw (f' f : Nat → Nat) (i k : Nat) : Nat := if k < i then f' k else f k
/-- A slice's length. -/
def slen : Value → Nat
  | .slice _ n _ => n
  | _ => 0

theorem hcell_set (f f' : Nat → Nat) (blk : Nat → UInt8) (N i : Nat) (hi : i < 8) (j : Nat) :
    (if j = i then Value.int .u32 (f' i) else hcell (mixw f' f i) blk N j) = hcell (mixw f' f (i + 1)) blk N j := by
  unfold hcell mixw
  by_cases e : j = i
  · subst e; rw [if_pos rfl, if_pos hi, if_pos (by omega)]
  · rw [if_neg e]
    by_cases h8 : j < 8
    · rw [if_pos h8, if_pos h8]
      by_cases h2 : j < i
      · rw [if_pos h2, if_pos (by omega)]
      · rw [if_neg h2, if_neg (by omega)]
    · rw [if_neg h8, if_neg h8]

theorem Blk.words {w : World} {p : Nat} {f : Nat → Nat} {blk : Nat → UInt8} {N : Nat} (h : Blk w p 55 73 (hcell f blk N)) (f' : Nat → Nat) : Blk (w.setCells p 0 (arr 8 (wv f')).toList) p 55 73 (hcell f' blk N) := by
  have h0 : Blk w p 55 73 (hcell (mixw f' f 0) blk N) := h.same (fun j _ => by simp [hcell, mixw])
  have h1 := (h0.set 0 (by omega) (.int .u32 (f' 0))).same (fun j _ => hcell_set f f' blk N 0 (by omega) j)
  have h2 := (h1.set 1 (by omega) (.int .u32 (f' 1))).same (fun j _ => hcell_set f f' blk N 1 (by omega) j)
  have h3 := (h2.set 2 (by omega) (.int .u32 (f' 2))).same (fun j _ => hcell_set f f' blk N 2 (by omega) j)
  have h4 := (h3.set 3 (by omega) (.int .u32 (f' 3))).same (fun j _ => hcell_set f f' blk N 3 (by omega) j)
  have h5 := (h4.set 4 (by omega) (.int .u32 (f' 4))).same (fun j _ => hcell_set f f' blk N 4 (by omega) j)
  have h6 := (h5.set 5 (by omega) (.int .u32 (f' 5))).same (fun j _ => hcell_set f f' blk N 5 (by omega) j)
  have h7 := (h6.set 6 (by omega) (.int .u32 (f' 6))).same (fun j _ => hcell_set f f' blk N 6 (by omega) j)
  have h8 := (h7.set 7 (by omega) (.int .u32 (f' 7))).same (fun j _ => hcell_set f f' blk N 7 (by omega) j)
  refine Blk.same (f := hcell (mixw f' f 8) blk N) h8 (fun j _ => ?_)
  unfold hcell mixw
  by_cases h8 : j < 8
  · rw [if_pos h8, if_pos h8, if_pos h8]
  · rw [if_neg h8, if_neg h8]

theorem load_words {w : World} {p : Nat} {f : Nat → Nat} {blk : Nat → UInt8} {N : Nat} (h : Blk w p 55 73 (hcell f blk N)) : (Instr.loadAt 51 (.pointer (some ⟨p, 0, none⟩))).run Tryd.prog w = .ok (.agg (arr 8 (wv f))) w := by
  have := run_loadAt_mid (P := Tryd.prog) w p 0 51 (arr 8 (wv f)).toList _ (fun j v hv => by
    rw [Array.getElem?_toList] at hv
    by_cases hj : j < 8
    · rw [arr_get 8 _ j hj] at hv
      rw [← hv, Nat.zero_add, h.cell j (by omega)]
      unfold hcell wv
      rw [if_pos hj]
    · rw [Array.getElem?_eq_none (by rw [arr_size]; omega)] at hv
      cases hv) Tryd.underlying51 rfl (by rw [Array.length_toList, arr_size]; exact n51)
  rwa [Array.toArray_toList] at this
theorem load_block {w : World} {p : Nat} {f : Nat → Nat} {blk : Nat → UInt8} {N : Nat} (h : Blk w p 55 73 (hcell f blk N)) : (Instr.loadAt 53 (.pointer (some ⟨p, 8, none⟩))).run Tryd.prog w = .ok (.agg (arr 64 (bv blk))) w := by
  have := run_loadAt_mid (P := Tryd.prog) w p 8 53 (arr 64 (bv blk)).toList _ (fun j v hv => by
    rw [Array.getElem?_toList] at hv
    by_cases hj : j < 64
    · rw [arr_get 64 _ j hj] at hv
      rw [← hv, h.cell (8 + j) (by omega)]
      unfold hcell bv
      rw [if_neg (by omega), if_pos (by omega), show 8 + j - 8 = j by omega]
    · rw [Array.getElem?_eq_none (by rw [arr_size]; omega)] at hv
      cases hv) Tryd.underlying53 rfl (by rw [Array.length_toList, arr_size]; exact n53)
  rwa [Array.toArray_toList] at this
theorem store_words {w : World} {p : Nat} {f : Nat → Nat} {blk : Nat → UInt8} {N : Nat} (h : Blk w p 55 73 (hcell f blk N)) (f' : Nat → Nat) : (Instr.storeAt 51 (.pointer (some ⟨p, 0, none⟩)) (.agg (arr 8 (wv f')))).run Tryd.prog w = .ok () (w.setCells p 0 (arr 8 (wv f')).toList) :=
  run_storeAt_mid (P := Tryd.prog) w p 0 51 (arr 8 (wv f')) (fun j hj => by
    rw [arr_size] at hj
    rw [Nat.zero_add, h.cell j (by omega)]
    exact ⟨rfl, h.frozen j⟩) (by rw [arr_size]; exact n51) (arr_one _ _ (fun _ => rfl))

theorem load_words2 {w : World} {p : Nat} {f : Nat → Nat} {blk : Nat → UInt8} {N : Nat} (h : Blk w p 55 73 (hcell f blk N)) : (loadVar 51 ⟨p, 0, none⟩).run Tryd.prog w = .ok (.agg (arr 8 (wv f))) w := by
  have := load_words h
  simpa only [Instr.loadAt, Instr.sureAddr, Sem.run_bind, Sem.run_pure, Result.andThen_ok] using this
theorem load_block2 {w : World} {p : Nat} {f : Nat → Nat} {blk : Nat → UInt8} {N : Nat} (h : Blk w p 55 73 (hcell f blk N)) : (loadVar 53 ⟨p, 8, none⟩).run Tryd.prog w = .ok (.agg (arr 64 (bv blk))) w := by
  have := load_block h
  simpa only [Instr.loadAt, Instr.sureAddr, Sem.run_bind, Sem.run_pure, Result.andThen_ok] using this
theorem store_words2 {w : World} {p : Nat} {f : Nat → Nat} {blk : Nat → UInt8} {N : Nat} (h : Blk w p 55 73 (hcell f blk N)) (f' : Nat → Nat) : (storeVar 51 ⟨p, 0, none⟩ (.agg (arr 8 (wv f')))).run Tryd.prog w = .ok () (w.setCells p 0 (arr 8 (wv f')).toList) := by
  have := store_words h f'
  simpa only [Instr.storeAt, Instr.sureAddr, Sem.run_bind, Sem.run_pure, Result.andThen_ok] using this

/-- The slice's bytes lie in no block p. -/
def Sep (ao : Option Addr) (n p : Nat) : Prop := ∀ b off, ao = some ⟨b, off, none⟩ → 0 < n → b ≠ p

theorem BAt.keep {w w' : World} {ao : Option Addr} {cap : Nat} {bs : List UInt8} {p : Nat} (h : BAt w ao cap bs) (hs : Sep ao bs.length p) (hF : Fr (fun k => k = p) w w') : BAt w' ao cap bs :=
  h.stay fun b off e h0 hlt => hF.block b hlt (hs b off e h0)

theorem hat_some {w : World} {p N n r : Nat} {bs ps : List UInt8} {blk : Nat → UInt8} {f : Nat → Nat} (hN : N = bs.length) (hf : f = absorb bs (bs.length / 64)) (hr : r = N % 64) (hn : ps.length = n) (hR : Rest bs blk) (hl : r + n < 64) (h : Blk w p 55 73 (hcell f (bput blk r ps) (N + n))) : HAt w p (bs ++ ps) := by
  subst hN hr hn
  obtain ⟨h1, h2⟩ := rest_some bs ps blk hR hl
  refine ⟨_, ?_, h1⟩
  rw [h2, List.length_append, ← hf]
  exact h
theorem hat_whole {w : World} {p N n r : Nat} {bs ps : List UInt8} {blk : Nat → UInt8} {f : Nat → Nat} (hN : N = bs.length) (hf : f = absorb bs (bs.length / 64)) (hr : r = N % 64) (hn : ps.length = n) (hR : Rest bs blk) (hl : r + n = 64) (h : Blk w p 55 73 (hcell (comp f (bput blk r ps)) (bput blk r ps) (N + n))) : HAt w p (bs ++ ps) := by
  subst hN hr hn
  obtain ⟨h1, h2⟩ := rest_whole bs ps blk hR hl
  refine ⟨bput blk (bs.length % 64) ps, ?_, h1 _⟩
  rw [h2, List.length_append, ← hf]
  exact h

theorem write_next {w wr w' : World} {p : Nat} {bs don rst ms : List UInt8} {cap n r b off : Nat} (ad : Addr) (hD : ms = don ++ rst) (hB : BAt wr (some ⟨b, off, none⟩) cap rst) (hS : Sep (some ⟨b, off, none⟩) rst.length p) (hF0 : Fr (fun k => k = p) w wr)
    (hn : n = min rst.length (64 - r)) (h0 : 0 < rst.length) (hcap : rst.length ≤ cap) (had : cap ≠ n → ad = ⟨b, off + n, none⟩) (hF : Fr (fun k => k = p) wr w') (hA : HAt w' p (bs ++ don ++ rst.take n)) :
    ∃ don' rst' ao' cap', Value.slice (some ad) (rst.length - n) (cap - n) = .slice ao' rst'.length cap' ∧ rst'.length ≤ cap' ∧ Hid (ms = don' ++ rst') ∧ Hid (BAt w' ao' cap' rst' ∧ Sep ao' rst'.length p ∧ HAt w' p (bs ++ don') ∧ Fr (fun k => k = p) w w') := by
  obtain ⟨b0, off0, e0, hc⟩ := hB.2.1 h0
  injection e0 with e0
  injection e0 with e1 e2
  subst e1 e2
  have hl : (rst.drop n).length = rst.length - n := List.length_drop
  refine ⟨don ++ rst.take n, rst.drop n, some ad, cap - n, by rw [hl], by omega, ?_, ⟨fun e => (by cases e), fun h1 => ?_, by have := hB.2.2; omega⟩, fun b1 off1 e1 h1 => ?_, by rw [← List.append_assoc]; exact hA, hF0.trans hF (fun _ _ t => t)⟩
  · show ms = _
    rw [hD, List.append_assoc, List.take_append_drop]
  · rw [had (by omega)]
    refine ⟨b, off + n, rfl, fun j hj => ?_⟩
    have hj2 : n + j < rst.length := by omega
    have := hc (n + j) hj2
    rw [← Nat.add_assoc] at this
    rw [hF.cell (a := ⟨b, off + n + j, none⟩) (World.block_lt_of_cell? _ _ this) (hS b off rfl h0), this, List.getElem_drop]
  · rw [had (by omega)] at e1
    injection e1 with e1
    injection e1 with e1 _
    rw [← e1]
    exact hS b off rfl h0

theorem run_slice_block (w : World) (p r : Nat) (hr : r < 64) : (Instr.sliceAt 53 (.pointer (some ⟨p, 8, none⟩)) (some (.int .i64 r)) none none).run Tryd.prog w = .ok (.slice (some ⟨p, 8 + r, none⟩) (64 - r) (64 - r)) w := by
  have hl : Tryd.prog.arrayLen 53 = 64 := by kernel_rfl
  have he : Tryd.prog.elem 53 = 5 := by kernel_rfl
  have hs : (sizeOf 5).run Tryd.prog w = .ok 1 w := by kernel_rfl
  rw [run_sliceAt_array_l w 53 ⟨p, 8, none⟩ (by rw [hl, he]; exact Tryd.underlying53) .i64 r (by omega) (by rw [hl]; omega), he, hl, hs]
  simp only [slicedAt, Result.andThen_ok, Int.toNat_natCast, Nat.mul_one, Addr.add_lit]
  rw [if_neg (by omega)]

/-- A load whose run is known, a store whose run is known: as one step of a region that draws its order. -/
theorem step_load_run {P : Program} {ops : Array Oper} {o : Oper} {a : Act} {w : World} {K : Act → World → Prop} {Q : Exit → Act → World → Prop} {E : Prop} (hgd : o.guard = none) (ty : TypeId) (x : Operand) (ho : o.op = .load ty x)
    (xv v : Value) (hx : a.eval x = xv) (hrun : (Instr.loadAt ty xv).run P w = .ok v w) (hK : K (a.put o.dst v) w) : if Region.wanted o (yielded ops a.tmps) = true then Oper.wp P o a w K Q else E := by
  have hw : Region.wanted o (yielded ops a.tmps) = true := by simp [Region.wanted, hgd]
  rw [if_pos hw]
  unfold Oper.wp execOp
  simp only [ho, hx, Sem.run_bind, hrun, Result.andThen_ok, Sem.run_pure]
  exact hK
theorem step_store_run {P : Program} {ops : Array Oper} {o : Oper} {a : Act} {w w' : World} {K : Act → World → Prop} {Q : Exit → Act → World → Prop} {E : Prop} (hgd : o.guard = none) (ty : TypeId) (x y : Operand) (ho : o.op = .store ty x y)
    (xv yv : Value) (hx : a.eval x = xv) (hy : a.eval y = yv) (hrun : (Instr.storeAt ty xv yv).run P w = .ok () w') (hK : K (a.put o.dst undef) w') : if Region.wanted o (yielded ops a.tmps) = true then Oper.wp P o a w K Q else E := by
  have hw : Region.wanted o (yielded ops a.tmps) = true := by simp [Region.wanted, hgd]
  rw [if_pos hw]
  unfold Oper.wp execOp
  simp only [ho, hx, hy, Sem.run_bind, hrun, Result.andThen_ok, Sem.run_pure]
  exact hK

section
variable {P : Program} {ops : Array Oper} {Q : Exit → Act → World → Prop} {md : Region.Mode} {fuel : Nat} {listed : Array Bool} {a : Act} {w : World} {i : Nat} {o : Oper} {rs : List Nat}
/-- The same, where one of several operations may come up next. -/
theorem ready_load (hi : ops[i]? = some o) (hgd : o.guard = none) (ty : TypeId) (x : Operand) (ho : o.op = .load ty x) (xv v : Value) (hx : a.eval x = xv) (hrun : (Instr.loadAt ty xv).run P w = .ok v w)
    (h : wpAny P md ops Q fuel (listed.setIfInBounds i true) (a.put o.dst v) w) (hs : AllReady P md ops Q fuel listed a w rs) : AllReady P md ops Q fuel listed a w (i :: rs) :=
  AllReady.cons hi (fun _ hK => step_load_run hgd ty x ho xv v hx hrun (hK _ _ h)) hs
theorem ready_store {w' : World} (hi : ops[i]? = some o) (hgd : o.guard = none) (ty : TypeId) (x y : Operand) (ho : o.op = .store ty x y) (xv yv : Value) (hx : a.eval x = xv) (hy : a.eval y = yv) (hrun : (Instr.storeAt ty xv yv).run P w = .ok () w')
    (h : wpAny P md ops Q fuel (listed.setIfInBounds i true) (a.put o.dst undef) w') (hs : AllReady P md ops Q fuel listed a w rs) : AllReady P md ops Q fuel listed a w (i :: rs) :=
  AllReady.cons hi (fun _ hK => step_store_run hgd ty x y ho xv yv hx hy hrun (hK _ _ h)) hs
theorem ready_call (hi : ops[i]? = some o) (hgd : o.guard = none) (f : FuncId) (args : Array Value) (hrun : (execOp a.eval o).run P w = .ok (.enter f args) w) {Post : Ending → World → Prop} (hc : Calls P f args w Post)
    (h : ∀ e w', Post e w' → ∃ v, e = .returned v ∧ wpAny P md ops Q fuel (listed.setIfInBounds i true) (a.put o.dst v) w') (hs : AllReady P md ops Q fuel listed a w rs) : AllReady P md ops Q fuel listed a w (i :: rs) := by
  refine AllReady.cons hi (fun K hK => ?_) hs
  have hw : Region.wanted o (yielded ops a.tmps) = true := by simp [Region.wanted, hgd]
  rw [if_pos hw]
  unfold Oper.wp
  rw [hrun, Oper.upon_enter]
  refine hc.mono fun e w'' hh => ?_
  obtain ⟨v, rfl, hv⟩ := h e w'' hh
  exact hK _ _ hv
end

end Go.Proofs.YtgklgbomfipagaaDoor
