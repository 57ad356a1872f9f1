import Derived.Test.YtabhfeocelljdaaDoorZHB
import Derived.Deep.RegionLaw
import Derived.Test.YtabhfeocelljdaaDoorZHC
/- The document's own spread. -/
namespace Go.Proofs.YtabhfeocelljdaaDoor
open Go.RowKit

theorem Tryd.info106 : (Tryd.prog.info? 106).map (fun i => (i.zero, i.size, i.bytes)) = some (some (.int .u32 0), 1, 4) := by kernel_rfl

/-- The first of some words, as values. -/
def colsV (f : Nat → Nat) (n : Nat) : List Value := (List.range n).map fun j => Value.int .u32 (f j)

theorem colsV_length (f : Nat → Nat) (n : Nat) : (colsV f n).length = n := by simp [colsV]
theorem colsV_get (f : Nat → Nat) (n j : Nat) (hj : j < n) : (colsV f n)[j]? = some (.int .u32 (f j)) := by simp [colsV, hj]
theorem colsV_succ (f : Nat → Nat) (n : Nat) : colsV f (n + 1) = colsV f n ++ [.int .u32 (f n)] := by simp [colsV, List.range_succ]
theorem colsV_ext {f g : Nat → Nat} {n : Nat} (h : ∀ j, j < n → f j = g j) : colsV f n = colsV g n := by
  unfold colsV
  exact List.map_congr_left (fun j hj => by rw [h j (List.mem_range.1 hj)])

/-- Words that can be read. -/
def MAt (w : World) (mo : Option Addr) (n : Nat) (f : Nat → Nat) : Prop := ∃ g, mo = some ⟨g, 0, none⟩ ∧ ∀ j, j < n → w.cell? ⟨g, j, none⟩ = some (.int .u32 (f j))

theorem MAt.later {w w' : World} {mo : Option Addr} {n : Nat} {f : Nat → Nat} (h : MAt w mo n f) (hF : Fr (fun _ => False) w w') : MAt w' mo n f := by
  obtain ⟨g, e, hc⟩ := h
  exact ⟨g, e, fun j hj => (hF.cell (a := ⟨g, j, none⟩) (World.block_lt_of_cell? _ _ (hc j hj)) (fun t => t)).trans (hc j hj)⟩

/-- A row of words under way, and nothing that was there has turned. -/
def MRow (w wr : World) (ao : Option Addr) (cap g : Nat) (f : Nat → Nat) (i : Nat) : Prop := VRow wr ao cap g (colsV f i) ∧ Fr (fun _ => False) w wr ∧ (0 < cap → w.heap.size ≤ g)

theorem MRow.start (w wr : World) (hF : Fr (fun _ => False) w wr) (f : Nat → Nat) : MRow w wr none 0 0 f 0 := ⟨VRow.nil wr 0, hF, fun h => absurd h (by omega)⟩

theorem MRow.later {w wr w' : World} {ao : Option Addr} {cap g : Nat} {f : Nat → Nat} {i : Nat} (h : MRow w wr ao cap g f i) (hF : Fr (fun _ => False) wr w') : MRow w w' ao cap g f i :=
  ⟨h.1.stay (fun hc => hF.block g (h.1.lt hc) (fun t => t)), h.2.1.trans hF (fun _ _ t => t), h.2.2⟩

theorem MRow.next {w wr w' : World} {ao ao' : Option Addr} {cap g cap' g' : Nat} {f : Nat → Nat} {i v : Nat} (h : MRow w wr ao cap g f i) (f' : Nat → Nat) (hf : ∀ j, j < i → f j = f' j) (hv : f' i = v) (wa : World) (hF : Fr (fun _ => False) wr wa) (hr : VRow w' ao' cap' g' (colsV f i ++ [.int .u32 v])) (hg : Grew wa g cap w' g' cap') : MRow w w' ao' cap' g' f' (i + 1) := by
  obtain ⟨_, h2, h3⟩ := h
  rw [colsV_ext hf, ← hv, ← colsV_succ] at hr
  have hF' := h2.trans hF (fun _ _ t => t)
  rcases hg with ⟨rfl, rfl, hf⟩ | ⟨hn, hc, hf⟩
  · exact ⟨hr, hF'.trans hf (fun k hk t => by have := h3 t.2; omega), h3⟩
  · exact ⟨hr, hF'.trans hf (fun _ _ t => t), fun _ => Nat.le_trans hF'.size hn⟩

theorem MRow.cell {w wr : World} {ao : Option Addr} {cap g : Nat} {f : Nat → Nat} {i : Nat} (h : MRow w wr ao cap g f i) (j : Nat) (hj : j < i) : wr.cell? ⟨g, j, none⟩ = some (.int .u32 (f j)) := by
  have hj2 : j < (colsV f i).length := by rw [colsV_length]; exact hj
  have := h.1.cells j hj2
  have e := colsV_get f i j hj
  rw [List.getElem?_eq_getElem hj2] at e
  rw [this, Option.some.inj e]

theorem MRow.ad {w wr : World} {ao : Option Addr} {cap g : Nat} {f : Nat → Nat} {i : Nat} (h : MRow w wr ao cap g f i) (hi : 0 < i) : ao = some ⟨g, 0, none⟩ ∧ i ≤ cap := by
  have hle := h.1.le
  rw [colsV_length] at hle
  exact ⟨h.1.ad (by omega), hle⟩

theorem step_append_vrowZ {P : Program} {ops : Array Oper} {o : Oper} {a : Act} {w : World} {K : Act → World → Prop} {Q : Exit → Act → World → Prop} {E : Prop} (hgd : o.guard = none) (s x : Operand) (t tx : TypeId)
    (ho : o.op = .call { callee := .builtin .append, args := #[s, x], argTypes := #[t, tx] }) (e : TypeId) (i : TypeInfo) (z : Value) (ht : P.underlying t = some (.slice e)) (hi : P.info? e = some i) (hz : i.zero = some z) (hz1 : z.cells = #[z]) (hs1 : i.size = 1)
    {ao : Option Addr} {cap g n : Nat} {vs : List Value} (hv : a.eval s = .slice ao n cap) (h : VRow w ao cap g vs) (hn : vs.length = n) (xv : Value) (news : List Value) (m : Nat) (hm : news.length = m) (hx : a.eval x = xv) (hs : Src P 1 tx xv m news w) (hfit : (n + m) * i.bytes ≤ 140737488355328) (hf2 : n + m ≤ 140737488355328)
    (hK : ∀ ao' cap' w' g', VRow w' ao' cap' g' (vs ++ news) → Grew w g cap w' g' cap' → K (a.put o.dst (.slice ao' (n + m) cap')) w') : if Region.wanted o (yielded ops a.tmps) = true then Oper.wp P o a w K Q else E := by
  have hw : Region.wanted o (yielded ops a.tmps) = true := by simp [Region.wanted, hgd]
  rw [if_pos hw]
  obtain ⟨ao', cap', w', g', hrun, r1, r2⟩ := append_vrow (P := P) t tx o.type e i z ht hi hz hz1 hs1 h hn xv news m hm hs hfit hf2
  unfold Oper.wp
  simp [execOp, ho, resolve, invoke, builtin, hv, hx, hrun, Result.andThen]
  exact hK ao' cap' w' g' r1 r2

end Go.Proofs.YtabhfeocelljdaaDoor

/- The document's own change. -/
namespace Go.Proofs.YtabhfeocelljdaaDoor
open Go.RowKit

/-- Words of which those behind place i have been moved up. -/
def shf (s : Nat → Nat) (i j : Nat) : Nat := if i < j then s (j - 1) else s j
theorem shf_next (s : Nat → Nat) (i j : Nat) (hi : 0 < i) : (if j = i then Value.int .u32 (s (i - 1)) else wv (shf s i) j) = wv (shf s (i - 1)) j := by
  unfold wv shf
  by_cases e : j = i
  · subst e; rw [if_pos rfl, if_pos (by omega)]
  · rw [if_neg e]
    by_cases h2 : i < j
    · rw [if_pos h2, if_pos (by omega)]
    · rw [if_neg h2, if_neg (by omega)]

/-- Where change has come to. -/
def Chg (w wr : World) (b r v g : Nat) (h s : Nat → Nat) (W : Nat → Nat) : Prop :=
  Blk wr b 107 8 (wv h) ∧ Blk wr r 107 8 (wv fun _ => 0) ∧ Blk wr v 107 8 (wv s) ∧ Fr (fun _ => False) w wr ∧ (∀ j, j < 64 → wr.cell? ⟨g, j, none⟩ = some (.int .u32 (W j))) ∧ w.heap.size ≤ b ∧ w.heap.size ≤ r ∧ w.heap.size ≤ v ∧ b ≠ r ∧ b ≠ v ∧ r ≠ v ∧ g ≠ v ∧ g ≠ b

theorem Chg.later {w wr w' : World} {b r v g : Nat} {h s : Nat → Nat} {W : Nat → Nat} (k : Chg w wr b r v g h s W) (hF : Fr (fun _ => False) wr w') : Chg w w' b r v g h s W := by
  obtain ⟨k1, k2, k3, k4, k5, k6⟩ := k
  exact ⟨k1.later hF, k2.later hF, k3.later hF, k4.trans hF (fun _ _ t => t), fun j hj => (hF.cell (a := ⟨g, j, none⟩) (World.block_lt_of_cell? _ _ (k5 j hj)) (fun t => t)).trans (k5 j hj), k6⟩

theorem Chg.set {w wr : World} {b r v g : Nat} {h s : Nat → Nat} {W : Nat → Nat} (k : Chg w wr b r v g h s W) (i : Nat) (hi : i < 8) (x : Nat) (s' : Nat → Nat) (hs : ∀ j, j < 8 → (if j = i then Value.int .u32 x else wv s j) = wv s' j) : Chg w (wr.setCell ⟨v, i, none⟩ (.int .u32 x)) b r v g h s' W := by
  obtain ⟨k1, k2, k3, k4, k5, k6, k7, k8, k9, k10, k11, k12, k13⟩ := k
  refine ⟨k1.other _ _ k10, k2.other _ _ k11, (k3.set i hi _).same hs, k4.setCell (p := ⟨v, i, none⟩) (fun t => absurd t (by simp only []; omega)) _, fun j hj => ?_, k6, k7, k8, k9, k10, k11, k12, k13⟩
  rw [World.cell?_setCell_other _ _ _ _ (fun t => k12 (by injection t with t _; exact t.symm))]
  exact k5 j hj

theorem Chg.same {w wr : World} {b r v g : Nat} {h s s' : Nat → Nat} {W : Nat → Nat} (k : Chg w wr b r v g h s W) (hs : ∀ j, j < 8 → s j = s' j) : Chg w wr b r v g h s' W := by
  obtain ⟨k1, k2, k3, k4⟩ := k
  exact ⟨k1, k2, k3.same (fun j hj => by unfold wv; rw [hs j hj]), k4⟩

/-- What a round makes of the words that were moved up. -/
def rn2 (s : Nat → Nat) (x4 x0 j : Nat) : Nat := if j = 0 then x0 else if j = 4 then x4 else shf s 0 j
theorem rn2_is (k W : Nat) (s : Nat → Nat) (x4 x0 j : Nat) (hj : j < 8) (h4 : x4 = add32 (s 3) (t1 k W s)) (h0 : x0 = add32 (t1 k W s) (t2 s)) : rn2 s x4 x0 j = rnd k W s j := by
  subst h4 h0
  match j, hj with
  | 0, _ => rfl
  | 1, _ => rfl
  | 2, _ => rfl
  | 3, _ => rfl
  | 4, _ => rfl
  | 5, _ => rfl
  | 6, _ => rfl
  | 7, _ => rfl

theorem ch_nat2 (e f g : Nat) (he : e < 4294967296) (hf : f < 4294967296) (hg : g < 4294967296) : bits .xor .u32 (bits .and .u32 (e : Int) (f : Int)) (bits .and .u32 (bits .xor .u32 IntKind.u32.max (e : Int)) (g : Int)) = ((chs e f g : Nat) : Int) := by
  have := ch_nat e f g he hf hg
  rwa [if_neg (by decide)] at this

end Go.Proofs.YtabhfeocelljdaaDoor

/- The document's own filling. -/
namespace Go.Proofs.YtabhfeocelljdaaDoor
open Go.RowKit

/-- The byte that a round appends. -/
theorem src_byte (w : World) (x : UInt8) (z : Int) (hz : (x.toNat : Int) = z) : Src Tryd.prog 1 31 (.slice (some ⟨w.heap.size, 0, none⟩) 1 1) [x].length (bytesV [x]) (w.alloc (.cells #[.int .u8 z] 5)) := by
  subst hz
  exact src_slice Tryd.underlying31 _ _ 1 [x] (bat_lit w [x] 5 (0, 0) (by simp)).2.1

/-- Bytes that are being made. -/
def Mk (w wr : World) (ao : Option Addr) (l cap : Nat) (bs : List UInt8) : Prop := l = bs.length ∧ ∃ g, Row wr (.slice ao l cap) g bs ∧ Fr (fun _ => False) w wr ∧ w.heap.size ≤ g

theorem Mk.next {w wr w3 : World} {ao3 : Option Addr} {cap cap3 g g3 : Nat} {bs : List UInt8} {x : UInt8} {o : Obj} (hF : Fr (fun _ => False) w wr) (hg : w.heap.size ≤ g)
    (k1 : Row w3 (.slice ao3 (bs.length + 1) cap3) g3 (bs ++ [x])) (k2 : Fr (fun k => k = g ∧ 0 < cap) (wr.alloc o) w3) (k3 : (g3 = g ∧ cap3 = cap) ∨ wr.heap.size + 1 ≤ g3) : Mk w w3 ao3 (bs.length + 1) cap3 (bs ++ [x]) := by
  have h9 := hF.size
  refine ⟨by simp, g3, k1, (hF.alloc o).trans k2 (fun i hi t => by omega), ?_⟩
  rcases k3 with ⟨e, _⟩ | k3 <;> omega

theorem be8_take (n m : Nat) (hm : m < 8) : (be8 n).take (m + 1) = (be8 n).take m ++ [UInt8.ofNat (n / 2 ^ (8 * (7 - m)))] := by
  have h := be8_get n (7 - m) (by omega)
  rw [show 7 - (7 - m) = m by omega] at h
  rw [List.take_add_one, h]
  rfl

end Go.Proofs.YtabhfeocelljdaaDoor

/- The regions of the document's Sum that draw their order. -/
namespace Go.Proofs.YtabhfeocelljdaaDoor
open Go.RowKit

theorem n49 : (Tryd.prog.info? 107).map (·.size) = some 8 := by kernel_rfl
theorem load_row49 {w : World} {g : Nat} {f : Nat → Nat} (h : Blk w g 107 8 (wv f)) : (Instr.loadAt 107 (.pointer (some ⟨g, 0, none⟩))).run Tryd.prog w = .ok (.agg (arr 8 (wv f))) w := by
  simp only [Instr.loadAt, Instr.sureAddr, Sem.run_bind, Sem.run_pure, Result.andThen_ok, run_loadVar_row w g 107 107 _ _ _ h Tryd.underlying107 rfl (size49 _)]
theorem store_row49 {w : World} {g : Nat} {f : Nat → Nat} (h : Blk w g 107 8 (wv f)) (f' : Nat → Nat) : (Instr.storeAt 107 (.pointer (some ⟨g, 0, none⟩)) (.agg (arr 8 (wv f')))).run Tryd.prog w = .ok () (w.setRow g (arr 8 (wv f'))) := by
  simp only [Instr.storeAt, Instr.sureAddr, Sem.run_bind, Sem.run_pure, Result.andThen_ok, run_storeVar_row w g 107 107 _ (arr 8 (wv f')) h (size49 _) (by rw [arr_size, arr_size]) (arr_one _ _ (fun _ => rfl))]

set_option maxHeartbeats 1000000 in
theorem rs11_any {Q : Exit → Act → World → Prop} (w0 : World) (hb i x ol oc go : Nat) (oo : Option Addr) (R : List UInt8) (hx : x < 4294967296) (hi : i < 8) (hol : R.length = ol) (hrow : Row w0 (.slice oo ol oc) go R) (hne : go ≠ hb) (hfit : ol + 4 ≤ 140737488355328) (hc : w0.cell? ⟨hb, i, none⟩ = some (.int .u32 x)) (u0 u1 u2 u4 u5 u8 u9 u10 u11 u12 u13 u14 u15 u16 u17 u18 u19 u20 u21 u22 u23 u24 u25 u26 u27 u28 u29 u30 u31 u32 u33 u34 u35 u36 u37 u38 u39 u40 u41 u42 u43 u44 u45 u46 u47 u48 u49 u50 : Value) (hQ : ∀ c (a : Act) (t : Tmp) v w, Q (.panic c) (a.put (some t) v) w → Q (.panic c) a w)
    (h : ∀ w9 ao6 cap6 g6, Row w9 (.slice ao6 (ol + 4) cap6) g6 (R ++ be4 x) → Fr (fun k => k = go ∧ 0 < oc) w0 w9 → ((g6 = go ∧ cap6 = oc) ∨ w0.heap.size ≤ g6) → Q .normal { tmps := #[u0, u1, u2, (.pointer (some ⟨hb, 0, none⟩)), u4, u5, (.slice ao6 (ol + 4) cap6), (.int .i64 i), u8, u9, u10, u11, u12, u13, u14, u15, u16, u17, u18, u19, u20, u21, u22, u23, u24, u25, u26, u27, (.slice oo ol oc), (.int .i64 i), (.pointer (some ⟨hb, i, none⟩)), (.int .u32 x), (.int .u32 ((x : Int) / 16777216)), (.int .u8 ((x : Int) / 16777216)), (.int .i64 i), (.pointer (some ⟨hb, i, none⟩)), (.int .u32 x), (.int .u32 ((x : Int) / 65536)), (.int .u8 ((x : Int) / 65536 % 256)), (.int .i64 i), (.pointer (some ⟨hb, i, none⟩)), (.int .u32 x), (.int .u32 ((x : Int) / 256)), (.int .u8 ((x : Int) / 256 % 256)), (.int .i64 i), (.pointer (some ⟨hb, i, none⟩)), (.int .u32 x), (.int .u8 ((x : Int) % 256)), (.slice (some ⟨w0.heap.size, 0, none⟩) 4 4), (.slice ao6 (ol + 4) cap6), u50], defers := [] } w9) :
    (Code.region 11 #[{ dst := some 28, op := Go.Op.move (Go.Operand.tmp 6), type := 31, pos := "ref.go:91", after := #[], guard := none }, { dst := some 29, op := Go.Op.move (Go.Operand.tmp 7), type := 3, pos := "ref.go:91", after := #[], guard := none }, { dst := some 30, op := Go.Op.indexAddr 107 (Go.Operand.tmp 3) (Go.Operand.tmp 29), type := 0, pos := "ref.go:91", after := #[{ on := 1, ground := Go.Ground.data }], guard := none }, { dst := some 31, op := Go.Op.load 106 (Go.Operand.tmp 30), type := 106, pos := "ref.go:91", after := #[{ on := 2, ground := Go.Ground.data }], guard := none }, { dst := some 32, op := Go.Op.binOp Go.BinOp.quo 106 (Go.Operand.tmp 31) (Go.Operand.const (Go.Value.int Go.IntKind.u32 16777216)) 106, type := 106, pos := "ref.go:91", after := #[{ on := 3, ground := Go.Ground.data }], guard := none }, { dst := some 33, op := Go.Op.convert 106 5 (Go.Operand.tmp 32), type := 5, pos := "ref.go:91", after := #[{ on := 4, ground := Go.Ground.data }], guard := none }, { dst := some 34, op := Go.Op.move (Go.Operand.tmp 7), type := 3, pos := "ref.go:91", after := #[], guard := none }, { dst := some 35, op := Go.Op.indexAddr 107 (Go.Operand.tmp 3) (Go.Operand.tmp 34), type := 0, pos := "ref.go:91", after := #[{ on := 6, ground := Go.Ground.data }], guard := none }, { dst := some 36, op := Go.Op.load 106 (Go.Operand.tmp 35), type := 106, pos := "ref.go:91", after := #[{ on := 7, ground := Go.Ground.data }], guard := none }, { dst := some 37, op := Go.Op.binOp Go.BinOp.quo 106 (Go.Operand.tmp 36) (Go.Operand.const (Go.Value.int Go.IntKind.u32 65536)) 106, type := 106, pos := "ref.go:91", after := #[{ on := 8, ground := Go.Ground.data }], guard := none }, { dst := some 38, op := Go.Op.convert 106 5 (Go.Operand.tmp 37), type := 5, pos := "ref.go:91", after := #[{ on := 9, ground := Go.Ground.data }], guard := none }, { dst := some 39, op := Go.Op.move (Go.Operand.tmp 7), type := 3, pos := "ref.go:91", after := #[], guard := none }, { dst := some 40, op := Go.Op.indexAddr 107 (Go.Operand.tmp 3) (Go.Operand.tmp 39), type := 0, pos := "ref.go:91", after := #[{ on := 11, ground := Go.Ground.data }], guard := none }, { dst := some 41, op := Go.Op.load 106 (Go.Operand.tmp 40), type := 106, pos := "ref.go:91", after := #[{ on := 12, ground := Go.Ground.data }], guard := none }, { dst := some 42, op := Go.Op.binOp Go.BinOp.quo 106 (Go.Operand.tmp 41) (Go.Operand.const (Go.Value.int Go.IntKind.u32 256)) 106, type := 106, pos := "ref.go:91", after := #[{ on := 13, ground := Go.Ground.data }], guard := none }, { dst := some 43, op := Go.Op.convert 106 5 (Go.Operand.tmp 42), type := 5, pos := "ref.go:91", after := #[{ on := 14, ground := Go.Ground.data }], guard := none }, { dst := some 44, op := Go.Op.move (Go.Operand.tmp 7), type := 3, pos := "ref.go:91", after := #[], guard := none }, { dst := some 45, op := Go.Op.indexAddr 107 (Go.Operand.tmp 3) (Go.Operand.tmp 44), type := 0, pos := "ref.go:91", after := #[{ on := 16, ground := Go.Ground.data }], guard := none }, { dst := some 46, op := Go.Op.load 106 (Go.Operand.tmp 45), type := 106, pos := "ref.go:91", after := #[{ on := 17, ground := Go.Ground.data }], guard := none }, { dst := some 47, op := Go.Op.convert 106 5 (Go.Operand.tmp 46), type := 5, pos := "ref.go:91", after := #[{ on := 18, ground := Go.Ground.data }], guard := none }, { dst := some 48, op := Go.Op.buildSlice 31 4 #[(0, Go.Operand.tmp 33), (1, Go.Operand.tmp 38), (2, Go.Operand.tmp 43), (3, Go.Operand.tmp 47)], type := 31, pos := "ref.go:91", after := #[{ on := 5, ground := Go.Ground.data }, { on := 10, ground := Go.Ground.data }, { on := 15, ground := Go.Ground.data }, { on := 19, ground := Go.Ground.data }], guard := none }, { dst := some 49, op := Go.Op.call { callee := Go.Callee.builtin Go.Builtin.append, args := #[Go.Operand.tmp 28, Go.Operand.tmp 48], argTypes := #[31, 31] }, type := 31, pos := "ref.go:91", after := #[{ on := 0, ground := Go.Ground.data }, { on := 20, ground := Go.Ground.data }], guard := none }, { dst := some 6, op := Go.Op.assign (Go.Operand.tmp 49), type := 31, pos := "ref.go:91", after := #[{ on := 21, ground := Go.Ground.data }, { on := 21, ground := Go.Ground.chain }, { on := 0, ground := Go.Ground.phase }, { on := 1, ground := Go.Ground.phase }, { on := 2, ground := Go.Ground.phase }, { on := 3, ground := Go.Ground.phase }, { on := 4, ground := Go.Ground.phase }, { on := 5, ground := Go.Ground.phase }, { on := 6, ground := Go.Ground.phase }, { on := 7, ground := Go.Ground.phase }, { on := 8, ground := Go.Ground.phase }, { on := 9, ground := Go.Ground.phase }, { on := 10, ground := Go.Ground.phase }, { on := 11, ground := Go.Ground.phase }, { on := 12, ground := Go.Ground.phase }, { on := 13, ground := Go.Ground.phase }, { on := 14, ground := Go.Ground.phase }, { on := 15, ground := Go.Ground.phase }, { on := 16, ground := Go.Ground.phase }, { on := 17, ground := Go.Ground.phase }, { on := 18, ground := Go.Ground.phase }, { on := 19, ground := Go.Ground.phase }, { on := 20, ground := Go.Ground.phase }, { on := 21, ground := Go.Ground.phase }], guard := none }] true).wp Tryd.prog Q { tmps := #[u0, u1, u2, (.pointer (some ⟨hb, 0, none⟩)), u4, u5, (.slice oo ol oc), (.int .i64 i), u8, u9, u10, u11, u12, u13, u14, u15, u16, u17, u18, u19, u20, u21, u22, u23, u24, u25, u26, u27, u28, u29, u30, u31, u32, u33, u34, u35, u36, u37, u38, u39, u40, u41, u42, u43, u44, u45, u46, u47, u48, u49, u50], defers := [] } w0 := by
  obtain ⟨i0, hi0, hz0, hz1, hz2⟩ := info_parts Tryd.info5
  refine wp_region_held_drew (S := fun w' => w'.cell? ⟨hb, i, none⟩ = some (.int .u32 x)) (by kernel_rfl) hc (fun hS => ?_)
  refine wpAnyH_take (i := 0) (v := (.slice oo ol oc)) rfl (by kernel_rfl) (by kernel_rfl) (by kernel_rfl) (fun _ _ _ h => hQ _ _ _ _ _ h) (Or.inl ⟨by kernel_rfl, fun w _ => by go_simp⟩) (by assumption) ?_
  refine wpAnyH_take (i := 1) (v := (.int .i64 i)) rfl (by kernel_rfl) (by kernel_rfl) (by kernel_rfl) (fun _ _ _ h => hQ _ _ _ _ _ h) (Or.inl ⟨by kernel_rfl, fun w _ => by go_simp⟩) (by assumption) ?_
  refine wpAnyH_take (i := 2) (v := (.pointer (some ⟨hb, i, none⟩))) rfl (by kernel_rfl) (by kernel_rfl) (by kernel_rfl) (fun _ _ _ h => hQ _ _ _ _ _ h) (Or.inl ⟨by kernel_rfl, fun w _ => by go_simp; intro hh; omega⟩) (by assumption) ?_
  refine wpAnyH_take (i := 3) (v := (.int .u32 x)) rfl (by kernel_rfl) (by kernel_rfl) (by kernel_rfl) (fun _ _ _ h => hQ _ _ _ _ _ h) (Or.inl ⟨by kernel_rfl, fun w hw => by go_simp⟩) (by assumption) ?_
  refine wpAnyH_take (i := 4) (v := (.int .u32 ((x : Int) / 16777216))) rfl (by kernel_rfl) (by kernel_rfl) (by kernel_rfl) (fun _ _ _ h => hQ _ _ _ _ _ h) (Or.inl ⟨by kernel_rfl, fun w _ => by go_simp; rw [IntKind.wrap_u32']; omega⟩) (by assumption) ?_
  refine wpAnyH_take (i := 5) (v := (.int .u8 ((x : Int) / 16777216))) rfl (by kernel_rfl) (by kernel_rfl) (by kernel_rfl) (fun _ _ _ h => hQ _ _ _ _ _ h) (Or.inl ⟨by kernel_rfl, fun w _ => by go_simp; rw [IntKind.wrap_u8']; omega⟩) (by assumption) ?_
  refine wpAnyH_take (i := 6) (v := (.int .i64 i)) rfl (by kernel_rfl) (by kernel_rfl) (by kernel_rfl) (fun _ _ _ h => hQ _ _ _ _ _ h) (Or.inl ⟨by kernel_rfl, fun w _ => by go_simp⟩) (by assumption) ?_
  refine wpAnyH_take (i := 7) (v := (.pointer (some ⟨hb, i, none⟩))) rfl (by kernel_rfl) (by kernel_rfl) (by kernel_rfl) (fun _ _ _ h => hQ _ _ _ _ _ h) (Or.inl ⟨by kernel_rfl, fun w _ => by go_simp; intro hh; omega⟩) (by assumption) ?_
  refine wpAnyH_take (i := 8) (v := (.int .u32 x)) rfl (by kernel_rfl) (by kernel_rfl) (by kernel_rfl) (fun _ _ _ h => hQ _ _ _ _ _ h) (Or.inl ⟨by kernel_rfl, fun w hw => by go_simp⟩) (by assumption) ?_
  refine wpAnyH_take (i := 9) (v := (.int .u32 ((x : Int) / 65536))) rfl (by kernel_rfl) (by kernel_rfl) (by kernel_rfl) (fun _ _ _ h => hQ _ _ _ _ _ h) (Or.inl ⟨by kernel_rfl, fun w _ => by go_simp; rw [IntKind.wrap_u32']; omega⟩) (by assumption) ?_
  refine wpAnyH_take (i := 10) (v := (.int .u8 ((x : Int) / 65536 % 256))) rfl (by kernel_rfl) (by kernel_rfl) (by kernel_rfl) (fun _ _ _ h => hQ _ _ _ _ _ h) (Or.inl ⟨by kernel_rfl, fun w _ => by go_simp; rw [IntKind.wrap_u8']⟩) (by assumption) ?_
  refine wpAnyH_take (i := 11) (v := (.int .i64 i)) rfl (by kernel_rfl) (by kernel_rfl) (by kernel_rfl) (fun _ _ _ h => hQ _ _ _ _ _ h) (Or.inl ⟨by kernel_rfl, fun w _ => by go_simp⟩) (by assumption) ?_
  refine wpAnyH_take (i := 12) (v := (.pointer (some ⟨hb, i, none⟩))) rfl (by kernel_rfl) (by kernel_rfl) (by kernel_rfl) (fun _ _ _ h => hQ _ _ _ _ _ h) (Or.inl ⟨by kernel_rfl, fun w _ => by go_simp; intro hh; omega⟩) (by assumption) ?_
  refine wpAnyH_take (i := 13) (v := (.int .u32 x)) rfl (by kernel_rfl) (by kernel_rfl) (by kernel_rfl) (fun _ _ _ h => hQ _ _ _ _ _ h) (Or.inl ⟨by kernel_rfl, fun w hw => by go_simp⟩) (by assumption) ?_
  refine wpAnyH_take (i := 14) (v := (.int .u32 ((x : Int) / 256))) rfl (by kernel_rfl) (by kernel_rfl) (by kernel_rfl) (fun _ _ _ h => hQ _ _ _ _ _ h) (Or.inl ⟨by kernel_rfl, fun w _ => by go_simp; rw [IntKind.wrap_u32']; omega⟩) (by assumption) ?_
  refine wpAnyH_take (i := 15) (v := (.int .u8 ((x : Int) / 256 % 256))) rfl (by kernel_rfl) (by kernel_rfl) (by kernel_rfl) (fun _ _ _ h => hQ _ _ _ _ _ h) (Or.inl ⟨by kernel_rfl, fun w _ => by go_simp; rw [IntKind.wrap_u8']⟩) (by assumption) ?_
  refine wpAnyH_take (i := 16) (v := (.int .i64 i)) rfl (by kernel_rfl) (by kernel_rfl) (by kernel_rfl) (fun _ _ _ h => hQ _ _ _ _ _ h) (Or.inl ⟨by kernel_rfl, fun w _ => by go_simp⟩) (by assumption) ?_
  refine wpAnyH_take (i := 17) (v := (.pointer (some ⟨hb, i, none⟩))) rfl (by kernel_rfl) (by kernel_rfl) (by kernel_rfl) (fun _ _ _ h => hQ _ _ _ _ _ h) (Or.inl ⟨by kernel_rfl, fun w _ => by go_simp; intro hh; omega⟩) (by assumption) ?_
  refine wpAnyH_take (i := 18) (v := (.int .u32 x)) rfl (by kernel_rfl) (by kernel_rfl) (by kernel_rfl) (fun _ _ _ h => hQ _ _ _ _ _ h) (Or.inl ⟨by kernel_rfl, fun w hw => by go_simp⟩) (by assumption) ?_
  refine wpAnyH_take (i := 19) (v := (.int .u8 ((x : Int) % 256))) rfl (by kernel_rfl) (by kernel_rfl) (by kernel_rfl) (fun _ _ _ h => hQ _ _ _ _ _ h) (Or.inl ⟨by kernel_rfl, fun w _ => by go_simp; rw [IntKind.wrap_u8']⟩) (by assumption) ?_
  have hwa : w0.drew.alloc (.cells #[.int .u8 ((x : Int) / 16777216), .int .u8 ((x : Int) / 65536 % 256), .int .u8 ((x : Int) / 256 % 256), .int .u8 ((x : Int) % 256)] 5) = w0.drew.alloc (.cells (bytesV (be4 x)).toArray 5) := by rw [be4_cells x hx]
  have hlt : hb < w0.heap.size := World.block_lt_of_cell? _ _ hc
  have hS1 : (w0.drew.alloc (.cells #[.int .u8 ((x : Int) / 16777216), .int .u8 ((x : Int) / 65536 % 256), .int .u8 ((x : Int) / 256 % 256), .int .u8 ((x : Int) % 256)] 5)).cell? ⟨hb, i, none⟩ = some (.int .u32 x) := (World.cell?_alloc_lt _ _ _ hlt).trans hc
  refine wpAnyH_ready (rs := [20]) (by kernel_rfl) (by simp) (readyH_runw (i := 20) rfl (by kernel_rfl) (.slice (some ⟨w0.heap.size, 0, none⟩) 4 4) (w0.drew.alloc (.cells #[.int .u8 ((x : Int) / 16777216), .int .u8 ((x : Int) / 65536 % 256), .int .u8 ((x : Int) / 256 % 256), .int .u8 ((x : Int) % 256)] 5)) (by kernel_rfl) hS1 ?_ AllReadyH.nil)
  have hr1 : Row (w0.drew.alloc (.cells #[.int .u8 ((x : Int) / 16777216), .int .u8 ((x : Int) / 65536 % 256), .int .u8 ((x : Int) / 256 % 256), .int .u8 ((x : Int) % 256)] 5)) (.slice oo ol oc) go R := hrow.stay (fun hl => Below.heap_alloc w0.drew _ _ hl)
  subst hol
  obtain ⟨ao6, cap6, w6, g6, hrun6, row6, fr6, hg6⟩ := append_row (P := Tryd.prog) 31 31 31 5 i0 Tryd.underlying31 hi0 hz0 hz1 hz2 hr1 (.slice (some ⟨w0.heap.size, 0, none⟩) 4 4) (be4 x) (by rw [hwa]; exact src_slice Tryd.underlying31 _ _ 4 (be4 x) (bat_lit w0.drew (be4 x) 5 (0, 0) (by simp [be4])).2.1) (by rw [be4_length]; omega)
  rw [List.length_append, be4_length] at hrun6 row6
  have hF6 : Fr (fun k => k = go ∧ 0 < oc) w0 w6 := (((Fr.refl _ w0).drew).alloc _).trans fr6 (fun _ _ t => t)
  have hS6 : w6.cell? ⟨hb, i, none⟩ = some (.int .u32 x) := (hF6.cell (a := ⟨hb, i, none⟩) hlt (fun t => hne t.1.symm)).trans hc
  refine wpAnyH_ready (rs := [21]) (by kernel_rfl) (by simp) (readyH_runw (i := 21) rfl (by kernel_rfl) (.slice ao6 (R.length + 4) cap6) w6 (exec_appendZ 31 31 31 rfl (.tmp 28) (.tmp 48) rfl (.slice oo R.length oc) (.slice (some ⟨w0.heap.size, 0, none⟩) 4 4) (by kernel_rfl) (by kernel_rfl) hrun6) hS6 ?_ AllReadyH.nil)
  refine wpAnyH_take (i := 22) (v := (.slice ao6 (R.length + 4) cap6)) rfl (by kernel_rfl) (by kernel_rfl) (by kernel_rfl) (fun _ _ _ h => hQ _ _ _ _ _ h) (Or.inl ⟨by kernel_rfl, fun w _ => by go_simp⟩) (by assumption) ?_
  refine wpAnyH_done (by kernel_rfl) ?_ _
  refine q_frame ?_ (h w6 ao6 cap6 g6 row6 hF6 (by
    rcases hg6 with e | e
    · exact .inl e
    · right
      have : w0.heap.size ≤ (w0.drew.alloc (.cells #[.int .u8 ((x : Int) / 16777216), .int .u8 ((x : Int) / 65536 % 256), .int .u8 ((x : Int) / 256 % 256), .int .u8 ((x : Int) % 256)] 5)).heap.size := World.size_alloc_le w0.drew _
      omega))
  kernel_rfl

end Go.Proofs.YtabhfeocelljdaaDoor

/- The document's own Sum. -/
namespace Go.Proofs.YtabhfeocelljdaaDoor
open Go.RowKit

/-- Where the document's Sum has come to. -/
def Smg (w wr : World) (hb g : Nat) (all : List UInt8) (f : Nat → Nat) : Prop := Blk wr hb 107 8 (wv f) ∧ (∀ j (hj : j < all.length), wr.cell? ⟨g, j, none⟩ = some (.int .u8 all[j].toNat)) ∧ Fr (fun _ => False) w wr ∧ w.heap.size ≤ hb ∧ g ≠ hb

end Go.Proofs.YtabhfeocelljdaaDoor

