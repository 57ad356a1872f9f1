import Derived.Test.YtjgbllfppomcmaaGreatKNX
import Derived.Deep.RegionLaw
import Derived.Test.YtjgbllfppomcmaaGreatRows
import Derived.Test.YtjgbllfppomcmaaGreatOQX
import Derived.ProofKit
import Derived.OpenShut
import Derived.ChangeOld
import Derived.Below
import Derived.SizedLaws
import Derived.Laws.Cover2
import Derived.Deep.Slices
import Derived.Test.YtjgbllfppomcmaaGreatJNX
/- Records out of bytes: taken, the exported calls. -/
namespace Go.Proofs.YtjgbllfppomcmaaGreat
open Go.RowKit

/-- The state in which a reader begins. -/
abbrev s00 : RS := ⟨0, 0, 0, 0⟩

/-- A value of a kind. -/
def Kd.has : Kd → Value → Prop
  | .num _, v => ∃ n, v = .int .i64 n
  | .int, v => ∃ n, v = .int .i64 n
  | .float, v => ∃ n, v = .float .f64 n
  | .bool, v => ∃ n, v = .bool n
  | .fix _, v => ∃ n, v = .string n

def HasL : List Kd → List Value → Prop
  | [], [] => True
  | k :: ks, v :: vs => k.has v ∧ HasL ks vs
  | _, _ => False

theorem four_boxes (w : World) (a b c d : Array Value) (ta tb tc td : TypeId) : Fr (fun _ => False) w ((((w.alloc (.cells a ta)).alloc (.cells b tb)).alloc (.cells c tc)).alloc (.cells d td)) ∧ Bx ((((w.alloc (.cells a ta)).alloc (.cells b tb)).alloc (.cells c tc)).alloc (.cells d td)) w.heap.size a ta ∧
    Bx ((((w.alloc (.cells a ta)).alloc (.cells b tb)).alloc (.cells c tc)).alloc (.cells d td)) (w.heap.size + 1) b tb ∧ Bx ((((w.alloc (.cells a ta)).alloc (.cells b tb)).alloc (.cells c tc)).alloc (.cells d td)) (w.heap.size + 1 + 1) c tc ∧ Bx ((((w.alloc (.cells a ta)).alloc (.cells b tb)).alloc (.cells c tc)).alloc (.cells d td)) (w.heap.size + 1 + 1 + 1) d td := by
  have h1 := Bx.new w a ta
  have h2 := Bx.new (w.alloc (.cells a ta)) b tb
  have h3 := Bx.new ((w.alloc (.cells a ta)).alloc (.cells b tb)) c tc
  have h4 := Bx.new (((w.alloc (.cells a ta)).alloc (.cells b tb)).alloc (.cells c tc)) d td
  simp only [heap_alloc] at h2 h3 h4
  exact ⟨((((Fr.refl _ w).alloc _).alloc _).alloc _).alloc _, ((h1.alloc _).alloc _).alloc _, (h2.alloc _).alloc _, h3.alloc _, h4⟩

section
variable {P : Program} {ops : Array Oper} {rest : List Oper} {o : Oper} {a : Act} {w : World} {Q : Exit → Act → World → Prop} {K : Act → World → Prop} {E : Prop} {T : TypeId} {g : Nat} {cs : Array Value}

theorem wpList_load_bx (hgd : o.guard = none) (x : Operand) (ho : o.op = .load T x) (hx : a.eval x = .pointer (some ⟨g, 0, none⟩)) (hg : Bx w g cs T) {d : TypeDesc} (hu : P.underlying T = some d) (hd : (match d with | .struct _ | .array _ _ => true | _ => false) = true)
    (hi : (P.info? T).map (·.size) = some cs.size) (h : wpList P ops Q rest (a.put o.dst (.agg cs)) w) : wpList P ops Q (o :: rest) a w := wpList_load_row hgd T x ho g hx T cs (0, 0) d hg hu hd hi h

theorem wpList_store_bx {old : Array Value} (hgd : o.guard = none) (x y : Operand) (ho : o.op = .store T x y) (hx : a.eval x = .pointer (some ⟨g, 0, none⟩)) (hy : a.eval y = .agg cs) (hg : Bx w g old T) (hi : (P.info? T).map (·.size) = some cs.size) (hold : old.size = cs.size) (h1 : cs.all (·.oneCell') = true)
    (h : wpList P ops Q rest (a.put o.dst undef) (w.setRow g cs)) : wpList P ops Q (o :: rest) a w := wpList_store_row hgd T x y ho g cs hx hy T old hg hi hold h1 h

theorem step_load_bx (hgd : o.guard = none) (x : Operand) (ho : o.op = .load T x) (hx : a.eval x = .pointer (some ⟨g, 0, none⟩)) (hg : Bx w g cs T) {d : TypeDesc} (hu : P.underlying T = some d) (hd : (match d with | .struct _ | .array _ _ => true | _ => false) = true)
    (hi : (P.info? T).map (·.size) = some cs.size) (h : K (a.put o.dst (.agg cs)) w) : if Region.wanted o (yielded ops a.tmps) = true then Oper.wp P o a w K Q else E := by
  have hw : Region.wanted o (yielded ops a.tmps) = true := by simp [Region.wanted, hgd]
  rw [if_pos hw]
  exact wp_load_row T x ho g hx T cs (0, 0) d hg hu hd hi h

theorem step_store_bx {old : Array Value} (hgd : o.guard = none) (x y : Operand) (ho : o.op = .store T x y) (hx : a.eval x = .pointer (some ⟨g, 0, none⟩)) (hy : a.eval y = .agg cs) (hg : Bx w g old T) (hi : (P.info? T).map (·.size) = some cs.size) (hold : old.size = cs.size) (h1 : cs.all (·.oneCell') = true)
    (h : K (a.put o.dst undef) (w.setRow g cs)) : if Region.wanted o (yielded ops a.tmps) = true then Oper.wp P o a w K Q else E := by
  have hw : Region.wanted o (yielded ops a.tmps) = true := by simp [Region.wanted, hgd]
  rw [if_pos hw]
  exact wp_store_row T x y ho g cs hx hy T old hg hi hold h1 h

theorem Bx.setRow {old : Array Value} (h : Bx w g old T) (cs : Array Value) : Bx (w.setRow g cs) g cs T := setRow_heap _ _ _ _ _ _ h
theorem Bx.setRowOther {b : Nat} (h : Bx w b cs T) (hne : b ≠ g) (vs : Array Value) : Bx (w.setRow g vs) b cs T := (setRow_other _ _ _ _ hne).trans h

theorem results_bx2 {fn : Func} {p q : Tmp} {U : TypeId} {g' : Nat} {cs' : Array Value} (h : fn.results = #[.cell p T, .cell q U]) (tmps : Array Value) (hp : tmps.getD p undef = .pointer (some ⟨g, 0, none⟩)) (hq : tmps.getD q undef = .pointer (some ⟨g', 0, none⟩)) (hg : Bx w g cs T) (hg' : Bx w g' cs' U)
    {d d' : TypeDesc} (hu : P.underlying T = some d) (hd : (match d with | .struct _ | .array _ _ => true | _ => false) = true) (hi : (P.info? T).map (·.size) = some cs.size) (hu' : P.underlying U = some d') (hd' : (match d' with | .struct _ | .array _ _ => true | _ => false) = true) (hi' : (P.info? U).map (·.size) = some cs'.size) :
    (results fn tmps).run P w = .ok (.tuple #[.agg cs, .agg cs']) w := by
  have hp' : tmps[p]?.getD undef = .pointer (some ⟨g, 0, none⟩) := by simpa using hp
  have hq' : tmps[q]?.getD undef = .pointer (some ⟨g', 0, none⟩) := by simpa using hq
  simp [results, h, hp', hq', asAddr, run_loadVar_row w g T T cs (0, 0) d hg hu hd hi, run_loadVar_row w g' U U cs' (0, 0) d' hg' hu' hd' hi']

end

theorem fault_size (a b : Value) : (Tryz.prog.info? 234).map (·.size) = some (#[a, b] : Array Value).size := by kernel_rfl

theorem rdL_has (bs : List UInt8) (ks : List Kd) (s : RS) : HasL ks (rdL bs ks s).1 := by
  induction ks generalizing s with
  | nil => trivial
  | cons k ks ih =>
    refine ⟨?_, ih _⟩
    cases k with
    | num n => exact rd_num bs _ s (Or.inl ⟨_, rfl⟩)
    | int => exact rd_num bs _ s (Or.inr rfl)
    | float => exact rd_float bs s
    | bool => exact rd_bool bs s
    | fix n => exact rd_fix bs n s

def tapZ : Tp := ⟨0, 0, ⟨#[]⟩, 0, 0, 0⟩
/-- A record out of its cells. -/
def tapOf : List Value → Tp
  | [.int _ dev, .int _ ctr, .string tok, .int _ kind, .int _ place, .int _ time] => ⟨dev, ctr, tok, kind, place, time⟩
  | _ => tapZ

theorem tap_shape (bs : List UInt8) (s : RS) : (rdL bs tapK s).1 = (tpC (tapOf (rdL bs tapK s).1)).toList := by
  have h := rdL_has bs tapK s
  generalize (rdL bs tapK s).1 = vs at h ⊢
  match vs, h with
  | [v0, v1, v2, v3, v4, v5], ⟨⟨_, e0⟩, ⟨_, e1⟩, ⟨_, e2⟩, ⟨_, e3⟩, ⟨_, e4⟩, ⟨_, e5⟩, _⟩ =>
    subst e0 e1 e2 e3 e4 e5
    rfl

theorem tap_size (cs : Array Value) (h : cs.size = 6) : (Tryz.prog.info? 47).map (·.size) = some cs.size := by rw [h]; kernel_rfl

/-- What reading answers: the record, the fault. -/
def tapRd (bs : List UInt8) : Tp × Int × Int :=
  if (endR (rdL bs tapK s00).2 bs.length).c ≠ 0 then (tapZ, (endR (rdL bs tapK s00).2 bs.length).c, (endR (rdL bs tapK s00).2 bs.length).f)
  else if tapOk (tapOf (rdL bs tapK s00).1) then (tapOf (rdL bs tapK s00).1, 0, 0) else (tapZ, 80, -1)

def ReadTap (w : World) (r : Tp × Int × Int) (e : Ending) (w' : World) : Prop := e = .returned (.tuple #[.agg (tpC r.1), .agg #[.int .i64 r.2.1, .int .i64 r.2.2]]) ∧ Fr (fun _ => False) w w'

def entryZ : En := ⟨0, ⟨#[]⟩, 0, false⟩
/-- A record out of its cells. -/
def entryOf : List Value → En
  | [.int _ run, .string tok, .int _ amount, .bool paid] => ⟨run, tok, amount, paid⟩
  | _ => entryZ

theorem entry_shape (bs : List UInt8) (s : RS) : (rdL bs entryK s).1 = (enC (entryOf (rdL bs entryK s).1)).toList := by
  have h := rdL_has bs entryK s
  generalize (rdL bs entryK s).1 = vs at h ⊢
  match vs, h with
  | [v0, v1, v2, v3], ⟨⟨_, e0⟩, ⟨_, e1⟩, ⟨_, e2⟩, ⟨_, e3⟩, _⟩ =>
    subst e0 e1 e2 e3
    rfl

/-- What reading answers: the record, the fault. -/
def entryRd (bs : List UInt8) : En × Int × Int :=
  if (endR (rdL bs entryK s00).2 bs.length).c ≠ 0 then (entryZ, (endR (rdL bs entryK s00).2 bs.length).c, (endR (rdL bs entryK s00).2 bs.length).f)
  else if entryOk (entryOf (rdL bs entryK s00).1) then (entryOf (rdL bs entryK s00).1, 0, 0) else (entryZ, 80, -1)

def ReadEntry (w : World) (r : En × Int × Int) (e : Ending) (w' : World) : Prop := e = .returned (.tuple #[.agg (enC r.1), .agg #[.int .i64 r.2.1, .int .i64 r.2.2]]) ∧ Fr (fun _ => False) w w'

def accountZ : Ac := ⟨⟨#[]⟩, 0, 0⟩
/-- A record out of its cells. -/
def accountOf : List Value → Ac
  | [.string tok, .int _ charged, .int _ paid] => ⟨tok, charged, paid⟩
  | _ => accountZ

theorem account_shape (bs : List UInt8) (s : RS) : (rdL bs accountK s).1 = (acC (accountOf (rdL bs accountK s).1)).toList := by
  have h := rdL_has bs accountK s
  generalize (rdL bs accountK s).1 = vs at h ⊢
  match vs, h with
  | [v0, v1, v2], ⟨⟨_, e0⟩, ⟨_, e1⟩, ⟨_, e2⟩, _⟩ =>
    subst e0 e1 e2
    rfl

theorem account_size (cs : Array Value) (h : cs.size = 3) : (Tryz.prog.info? 257).map (·.size) = some cs.size := by rw [h]; kernel_rfl

/-- What reading answers: the record, the fault. -/
def accountRd (bs : List UInt8) : Ac × Int × Int :=
  if (endR (rdL bs accountK s00).2 bs.length).c ≠ 0 then (accountZ, (endR (rdL bs accountK s00).2 bs.length).c, (endR (rdL bs accountK s00).2 bs.length).f)
  else if accountOk (accountOf (rdL bs accountK s00).1) then (accountOf (rdL bs accountK s00).1, 0, 0) else (accountZ, 80, -1)

def ReadAccount (w : World) (r : Ac × Int × Int) (e : Ending) (w' : World) : Prop := e = .returned (.tuple #[.agg (acC r.1), .agg #[.int .i64 r.2.1, .int .i64 r.2.2]]) ∧ Fr (fun _ => False) w w'

end Go.Proofs.YtjgbllfppomcmaaGreat

/- Bytes that are handed in, with their room. -/
namespace Go.Proofs.YtjgbllfppomcmaaGreat
open Go.RowKit

/-- Bytes that are handed in, with their room. -/
structure BInC (w : World) (ao : Option Addr) (cap : Nat) (bs : List UInt8) : Prop where
  b : BIn w ao cap bs
  le : bs.length ≤ cap
  max : cap ≤ 9223372036854775807

theorem BInC.keep {w w' : World} {ao : Option Addr} {cap : Nat} {bs : List UInt8} (h : BInC w ao cap bs) (hf : Fr (fun _ => False) w w') : BInC w' ao cap bs := ⟨h.b.keep hf, h.le, h.max⟩

/-- Its numbers are numbers. -/
def tapFits (t : Tp) : Prop := t.dev ≤ 9223372036854775807 ∧ t.ctr ≤ 9223372036854775807 ∧ t.kind ≤ 9223372036854775807 ∧ t.place ≤ 9223372036854775807 ∧ t.time ≤ 9223372036854775807

/-- Its numbers are numbers. -/
def entryFits (t : En) : Prop := t.run ≤ 9223372036854775807

/-- Its numbers are numbers. -/
def accountFits (t : Ac) : Prop := t.charged ≤ 9223372036854775807 ∧ t.paid ≤ 9223372036854775807

end Go.Proofs.YtjgbllfppomcmaaGreat

/- How the laws' arguments read: bytes, taps, entries, accounts, deltas, outages. -/
namespace Go.Proofs.YtjgbllfppomcmaaGreat
open Go.ChangeShapes Go.WideShapes Go.ChangeAt Go.RowKit Go.Deep

section
variable {H : Type} {enc : TypeId × Value → H} {w : World} {held : Bool}

theorem open_bytes {fuel : Nat} {a0 : Option Addr} {len cap : Nat} {x : DataW H × List MemPlace} (h : DataW.trod enc Tryz.prog w 0 (fun _ => true) held fuel 130 [.slice a0 len cap] = some x) :
    ∃ bs : List UInt8, bs.length = len ∧ (a0 = none → bs.length = 0 ∧ cap = 0) ∧ (0 < bs.length → ∃ b off, a0 = some ⟨b, off, none⟩ ∧ ∀ j (hj : j < bs.length), w.cell? ⟨b, off + j, none⟩ = some (.int .u8 (bs[j].toNat))) ∧
      len ≤ cap ∧ (cap = 0 ∨ ∃ elems rest, x.1 = .slice elems rest ∧ elems.length + rest.length = cap) := by
  rcases open_ints Tryz.underlying130 Tryz.underlying5 (by kernel_rfl) h with ⟨hcs, hx⟩ | ⟨a, l, c, zs, hcs, _, hl, hm, hz, hx, hcell, hwz⟩
  · simp at hcs
    obtain ⟨rfl, rfl, rfl⟩ := hcs
    exact ⟨[], rfl, fun _ => ⟨rfl, rfl⟩, fun h0 => absurd h0 (by simp), Nat.le_refl _, .inl rfl⟩
  · simp at hcs
    obtain ⟨rfl, rfl, rfl⟩ := hcs
    have hz' : zs.length = cap := by simpa using hz
    refine ⟨(zs.take len).map (fun z => UInt8.ofNat z.toNat), by simp; omega, fun e => (by cases e), fun h0 => ?_, hl, .inr ?_⟩
    · simp at h0
      obtain ⟨b, off, spot⟩ := a
      have hc := hcell 0 (by omega)
      have hspot : spot = none := by simpa [Addr.add] using World.cell?_spot hc
      subst hspot
      refine ⟨b, off, rfl, fun j hj => ?_⟩
      have hj2 : j < zs.length := by simp at hj; omega
      have h1 := hcell j hj2
      rw [Addr.add_lit] at h1
      rw [h1]
      have hw := hwz (zs.getD j 0) (by simp [List.getD, hj2])
      have hb : 0 ≤ zs.getD j 0 ∧ zs.getD j 0 ≤ 255 := by simpa [Lit.wf, IntKind.min, IntKind.max, IntKind.signed, IntKind.bits] using hw
      have e2 : zs[j]?.getD 0 = zs[j] := by simp [hj2]
      simp only [List.getD, e2] at hb ⊢
      simp
      omega
    · rw [hx]
      exact ⟨_, _, rfl, by simp [lits]; omega⟩

/-- Bytes that were handed in. -/
theorem arg_bytes {ts : List TypeId} {ds : List (DataW H)} {v : Value} {d : DataW H} {p : List MemPlace} {j : Nat} (hok : ∃ a len cap, v = .slice a len cap) (h : DataW.Trod enc Tryz.prog w 0 (fun _ => true) held 130 v d p)
    (hsz : (DataW.weightsEach Tryz.prog ts ds).all (· ≤ reachBytes) = true) (ht : ts[j]? = some 130) (hd : ds[j]? = some d) : ∃ ao cap bs, v = .slice ao (List.length bs) cap ∧ BInC w ao cap bs ∧ bs.length + 4096 ≤ 140737488355328 := by
  obtain ⟨a, len, cap, rfl⟩ := hok
  obtain ⟨fuel, hf⟩ := h
  obtain ⟨bs, rfl, h1, h2, h3, h4⟩ := open_bytes hf
  have hcap : cap ≤ 140737488351232 := by
    rcases h4 with h | ⟨elems, rest, e, hl⟩
    · omega
    · have hs := sized_slice hsz (t := 130) (e := 5) (elems := elems) (spare := rest) ht (by rw [hd]; exact congrArg some e) Tryz.underlying130
      have hby : Tryz.prog.bytesOf 5 = 1 := by kernel_rfl
      rw [hby] at hs
      unfold reachBytes at hs
      omega
  exact ⟨a, cap, bs, rfl, ⟨⟨h1, h2, by omega⟩, h3, by omega⟩, by omega⟩

theorem cells_tap : Tryz.prog.cellsOf 47 = 6 := by kernel_rfl

set_option maxRecDepth 100000 in
theorem open_tap {fuel : Nat} {cs : List Value} {x : DataW H × List MemPlace} (h : DataW.trod enc Tryz.prog w 0 (fun _ => true) held fuel 47 cs = some x) : ∃ t : Tp, cs = (tpC t).toList ∧ tapFits t := by
  obtain ⟨xs, n, _, rfl, hl, hlen, hf⟩ := DataW.trod_struct Tryz.underlying47 h
  rw [cells_tap] at hl
  have g0 := hf 0 _ rfl
  have g1 := hf 1 _ rfl
  have g2 := hf 2 _ rfl
  have g3 := hf 3 _ rfl
  have g4 := hf 4 _ rfl
  have g5 := hf 5 _ rfl
  match xs, hlen with
  | [y0, y1, y2, y3, y4, y5], _ =>
    simp only [List.getElem?_cons_zero, List.getElem?_cons_succ] at g0 g1 g2 g3 g4 g5
    obtain ⟨a0, e0, rfl, w0⟩ := DataW.trod_int Tryz.underlying3 g0
    obtain ⟨a1, e1, rfl, w1⟩ := DataW.trod_int Tryz.underlying3 g1
    obtain ⟨a2, e2, rfl, w2⟩ := DataW.trod_string Tryz.underlying9 g2
    obtain ⟨a3, e3, rfl, w3⟩ := DataW.trod_int Tryz.underlying3 g3
    obtain ⟨a4, e4, rfl, w4⟩ := DataW.trod_int Tryz.underlying3 g4
    obtain ⟨a5, e5, rfl, w5⟩ := DataW.trod_int Tryz.underlying3 g5
    match cs, hl with
    | [c0, c1, c2, c3, c4, c5], _ =>
      have f0 := one_of e0
      have f1 := one_of e1
      have f2 := one_of e2
      have f3 := one_of e3
      have f4 := one_of e4
      have f5 := one_of e5
      simp at f0 f1 f2 f3 f4 f5
      subst f0 f1 f2 f3 f4 f5
      exact ⟨⟨a0, a1, a2, a3, a4, a5⟩, rfl, ⟨(wf_le w0).1, (wf_le w1).1, (wf_le w3).1, (wf_le w4).1, (wf_le w5).1⟩⟩

/-- One that was handed in. -/
theorem arg_tap {v : Value} {d : DataW H} {p : List MemPlace} (hok : ∃ cs, v = .agg cs ∧ cs.size = Tryz.prog.cellsOf 47) (h : DataW.Trod enc Tryz.prog w 0 (fun _ => true) held 47 v d p) : ∃ t : Tp, v = .agg (tpC t) ∧ tapFits t := by
  obtain ⟨cs, rfl, _⟩ := hok
  obtain ⟨fuel, hf⟩ := h
  obtain ⟨t, h1, h2⟩ := open_tap (cs := cs.toList) hf
  exact ⟨t, by rw [show cs = tpC t from Array.ext' h1], h2⟩

theorem cells_account : Tryz.prog.cellsOf 257 = 3 := by kernel_rfl

set_option maxRecDepth 100000 in
theorem open_account {fuel : Nat} {cs : List Value} {x : DataW H × List MemPlace} (h : DataW.trod enc Tryz.prog w 0 (fun _ => true) held fuel 257 cs = some x) : ∃ t : Ac, cs = (acC t).toList ∧ accountFits t := by
  obtain ⟨xs, n, _, rfl, hl, hlen, hf⟩ := DataW.trod_struct Tryz.underlying257 h
  rw [cells_account] at hl
  have g0 := hf 0 _ rfl
  have g1 := hf 1 _ rfl
  have g2 := hf 2 _ rfl
  match xs, hlen with
  | [y0, y1, y2], _ =>
    simp only [List.getElem?_cons_zero, List.getElem?_cons_succ] at g0 g1 g2
    obtain ⟨a0, e0, rfl, w0⟩ := DataW.trod_string Tryz.underlying9 g0
    obtain ⟨a1, e1, rfl, w1⟩ := DataW.trod_int Tryz.underlying3 g1
    obtain ⟨a2, e2, rfl, w2⟩ := DataW.trod_int Tryz.underlying3 g2
    match cs, hl with
    | [c0, c1, c2], _ =>
      have f0 := one_of e0
      have f1 := one_of e1
      have f2 := one_of e2
      simp at f0 f1 f2
      subst f0 f1 f2
      exact ⟨⟨a0, a1, a2⟩, rfl, ⟨(wf_le w1).1, (wf_le w2).1⟩⟩

/-- One that was handed in. -/
theorem arg_account {v : Value} {d : DataW H} {p : List MemPlace} (hok : ∃ cs, v = .agg cs ∧ cs.size = Tryz.prog.cellsOf 257) (h : DataW.Trod enc Tryz.prog w 0 (fun _ => true) held 257 v d p) : ∃ t : Ac, v = .agg (acC t) ∧ accountFits t := by
  obtain ⟨cs, rfl, _⟩ := hok
  obtain ⟨fuel, hf⟩ := h
  obtain ⟨t, h1, h2⟩ := open_account (cs := cs.toList) hf
  exact ⟨t, by rw [show cs = acC t from Array.ext' h1], h2⟩

end
end Go.Proofs.YtjgbllfppomcmaaGreat

/- How the laws' arguments read: taps. -/
namespace Go.Proofs.YtjgbllfppomcmaaGreat
open Go.ChangeShapes Go.WideShapes Go.ChangeAt Go.RowKit Go.Deep

section
variable {H : Type} {enc : TypeId × Value → H} {w : World} {held : Bool}

theorem tpC_list (t : Tp) : (tpC t).toList = tpL t := rfl

theorem open_taps {fuel : Nat} {a0 : Option Addr} {len cap : Nat} {x : DataW H × List MemPlace} (h : DataW.trod enc Tryz.prog w 0 (fun _ => true) held fuel 29 [.slice a0 len cap] = some x) :
    ∃ ps : List Tp, ps.length = len ∧ len ≤ cap ∧ CAt w a0 (tpV ps) ∧ (len = 0 ∨ ∃ elems rest, x.1 = .slice elems rest ∧ elems.length = len) := by
  rcases open_slice Tryz.underlying29 h with ⟨hcs, hx⟩ | ⟨a, len', cap', m, n, D, Pla, hcs, hb, hl, hm, hmm, hx, hel⟩
  · simp at hcs
    obtain ⟨rfl, rfl, rfl⟩ := hcs
    exact ⟨[], rfl, Nat.le_refl _, CAt.nil _ _, .inl rfl⟩
  · simp at hcs
    obtain ⟨rfl, rfl, rfl⟩ := hcs
    rw [cells_tap] at hel
    have hmc : m = cap := by simpa using hmm
    obtain ⟨ps, hpl, hps⟩ := list_of (Good := fun j (q : Tp) => ∀ i, i < 6 → w.cell? ((a.add (j * 6)).add i) = (tpL q)[i]?) len (fun j hj => by
      obtain ⟨cs', h1, h2⟩ := hel j (by omega)
      obtain ⟨q, e1, _⟩ := open_tap h2
      obtain ⟨_, _, h4⟩ := World.cells?_some h1
      refine ⟨q, fun i hi => ?_⟩
      rw [h4 i hi, e1]
      rfl)
    refine ⟨ps, hpl, hl, fun h0 => ?_, .inr ⟨_, _, by rw [hx], by simp⟩⟩
    have hVl := tpV_length ps
    have hpos : 0 < ps.length := by omega
    obtain ⟨b, off, spot⟩ := a
    have hc := hps 0 hpos 0 (by omega)
    have hspot : spot = none := by
      have hv : (tpL ps[0])[0]? = some (.int .i64 ps[0].dev) := rfl
      rw [hv] at hc
      simpa [Addr.add] using World.cell?_spot hc
    subst hspot
    refine ⟨b, off, rfl, fun j hj => ?_⟩
    have hjk : j / 6 < ps.length := by omega
    have h1 := hps (j / 6) hjk (j % 6) (Nat.mod_lt _ (by omega))
    rw [Addr.add_lit, Addr.add_lit, Nat.add_assoc, show j / 6 * 6 + j % 6 = j by omega] at h1
    have h2 := flat_get tpL 6 (fun _ => rfl) ps (j / 6) hjk (j % 6) (Nat.mod_lt _ (by omega))
    rw [show j / 6 * 6 + j % 6 = j by omega] at h2
    rw [h1, ← h2]
    exact List.getElem?_eq_getElem hj

/-- Taps that were handed in. -/
theorem arg_taps {ts : List TypeId} {ds : List (DataW H)} {v : Value} {d : DataW H} {p : List MemPlace} {j : Nat} (hok : ∃ a len cap, v = .slice a len cap) (h : DataW.Trod enc Tryz.prog w 0 (fun _ => true) held 29 v d p)
    (hsz : (DataW.weightsEach Tryz.prog ts ds).all (· ≤ reachBytes) = true) (ht : ts[j]? = some 29) (hd : ds[j]? = some d) : ∃ ao cap ps, v = .slice ao (List.length ps) cap ∧ CAt w ao (tpV ps) ∧ ps.length ≤ cap ∧ (ps.length + 1) * 56 ≤ 140737488355328 := by
  obtain ⟨a, len, cap, rfl⟩ := hok
  obtain ⟨fuel, hf⟩ := h
  obtain ⟨ps, rfl, h1, h2, h3⟩ := open_taps hf
  refine ⟨a, cap, ps, rfl, h2, h1, ?_⟩
  rcases h3 with h | ⟨el, re, e, hl⟩
  · rw [h]; omega
  · have hs := sized_slice hsz (t := 29) (e := 47) (elems := el) (spare := re) ht (by rw [hd]; exact congrArg some e) Tryz.underlying29
    have hby : Tryz.prog.bytesOf 47 = 56 := by kernel_rfl
    rw [hby] at hs
    unfold reachBytes at hs
    omega

end
end Go.Proofs.YtjgbllfppomcmaaGreat

