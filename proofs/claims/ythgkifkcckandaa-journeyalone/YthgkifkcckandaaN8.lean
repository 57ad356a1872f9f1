import Derived.Test.YthgkifkcckandaaN7
import Derived.Deep.RegionLaw
/- Records out of bytes: taken, the exported calls. -/
namespace Go.Proofs.Ythgkifkcckandaa
open Go.RowKit

/-- The state in which a reader begins. -/
abbrev s00 : RS := ⟨0, 0, 0, 0⟩

/-- A value of a kind. -/
def Kd.has : Kd → Value → Prop
  | .num _, v => ∃ n, v = .int .i64 n
  | .int, v => ∃ n, v = .int .i64 n
  | .float, v => ∃ n, v = .float .f64 n
  | .bool, v => ∃ n, v = .bool n
  | .fix _, v => ∃ n, v = .string n

def HasL : List Kd → List Value → Prop
  | [], [] => True
  | k :: ks, v :: vs => k.has v ∧ HasL ks vs
  | _, _ => False

theorem four_boxes (w : World) (a b c d : Array Value) (ta tb tc td : TypeId) : Fr (fun _ => False) w ((((w.alloc (.cells a ta)).alloc (.cells b tb)).alloc (.cells c tc)).alloc (.cells d td)) ∧ Bx ((((w.alloc (.cells a ta)).alloc (.cells b tb)).alloc (.cells c tc)).alloc (.cells d td)) w.heap.size a ta ∧
    Bx ((((w.alloc (.cells a ta)).alloc (.cells b tb)).alloc (.cells c tc)).alloc (.cells d td)) (w.heap.size + 1) b tb ∧ Bx ((((w.alloc (.cells a ta)).alloc (.cells b tb)).alloc (.cells c tc)).alloc (.cells d td)) (w.heap.size + 1 + 1) c tc ∧ Bx ((((w.alloc (.cells a ta)).alloc (.cells b tb)).alloc (.cells c tc)).alloc (.cells d td)) (w.heap.size + 1 + 1 + 1) d td := by
  have h1 := Bx.new w a ta
  have h2 := Bx.new (w.alloc (.cells a ta)) b tb
  have h3 := Bx.new ((w.alloc (.cells a ta)).alloc (.cells b tb)) c tc
  have h4 := Bx.new (((w.alloc (.cells a ta)).alloc (.cells b tb)).alloc (.cells c tc)) d td
  simp only [heap_alloc] at h2 h3 h4
  exact ⟨((((Fr.refl _ w).alloc _).alloc _).alloc _).alloc _, ((h1.alloc _).alloc _).alloc _, (h2.alloc _).alloc _, h3.alloc _, h4⟩

section
variable {P : Program} {ops : Array Oper} {rest : List Oper} {o : Oper} {a : Act} {w : World} {Q : Exit → Act → World → Prop} {K : Act → World → Prop} {E : Prop} {T : TypeId} {g : Nat} {cs : Array Value}

theorem wpList_load_bx (hgd : o.guard = none) (x : Operand) (ho : o.op = .load T x) (hx : a.eval x = .pointer (some ⟨g, 0, none⟩)) (hg : Bx w g cs T) {d : TypeDesc} (hu : P.underlying T = some d) (hd : (match d with | .struct _ | .array _ _ => true | _ => false) = true)
    (hi : (P.info? T).map (·.size) = some cs.size) (h : wpList P ops Q rest (a.put o.dst (.agg cs)) w) : wpList P ops Q (o :: rest) a w := wpList_load_row hgd T x ho g hx T cs (0, 0) d hg hu hd hi h

theorem wpList_store_bx {old : Array Value} (hgd : o.guard = none) (x y : Operand) (ho : o.op = .store T x y) (hx : a.eval x = .pointer (some ⟨g, 0, none⟩)) (hy : a.eval y = .agg cs) (hg : Bx w g old T) (hi : (P.info? T).map (·.size) = some cs.size) (hold : old.size = cs.size) (h1 : cs.all (·.oneCell') = true)
    (h : wpList P ops Q rest (a.put o.dst undef) (w.setRow g cs)) : wpList P ops Q (o :: rest) a w := wpList_store_row hgd T x y ho g cs hx hy T old hg hi hold h1 h

theorem step_load_bx (hgd : o.guard = none) (x : Operand) (ho : o.op = .load T x) (hx : a.eval x = .pointer (some ⟨g, 0, none⟩)) (hg : Bx w g cs T) {d : TypeDesc} (hu : P.underlying T = some d) (hd : (match d with | .struct _ | .array _ _ => true | _ => false) = true)
    (hi : (P.info? T).map (·.size) = some cs.size) (h : K (a.put o.dst (.agg cs)) w) : if Region.wanted o (yielded ops a.tmps) = true then Oper.wp P o a w K Q else E := by
  have hw : Region.wanted o (yielded ops a.tmps) = true := by simp [Region.wanted, hgd]
  rw [if_pos hw]
  exact wp_load_row T x ho g hx T cs (0, 0) d hg hu hd hi h

theorem step_store_bx {old : Array Value} (hgd : o.guard = none) (x y : Operand) (ho : o.op = .store T x y) (hx : a.eval x = .pointer (some ⟨g, 0, none⟩)) (hy : a.eval y = .agg cs) (hg : Bx w g old T) (hi : (P.info? T).map (·.size) = some cs.size) (hold : old.size = cs.size) (h1 : cs.all (·.oneCell') = true)
    (h : K (a.put o.dst undef) (w.setRow g cs)) : if Region.wanted o (yielded ops a.tmps) = true then Oper.wp P o a w K Q else E := by
  have hw : Region.wanted o (yielded ops a.tmps) = true := by simp [Region.wanted, hgd]
  rw [if_pos hw]
  exact wp_store_row T x y ho g cs hx hy T old hg hi hold h1 h

theorem Bx.setRow {old : Array Value} (h : Bx w g old T) (cs : Array Value) : Bx (w.setRow g cs) g cs T := setRow_heap _ _ _ _ _ _ h
theorem Bx.setRowOther {b : Nat} (h : Bx w b cs T) (hne : b ≠ g) (vs : Array Value) : Bx (w.setRow g vs) b cs T := (setRow_other _ _ _ _ hne).trans h

theorem results_bx2 {fn : Func} {p q : Tmp} {U : TypeId} {g' : Nat} {cs' : Array Value} (h : fn.results = #[.cell p T, .cell q U]) (tmps : Array Value) (hp : tmps.getD p undef = .pointer (some ⟨g, 0, none⟩)) (hq : tmps.getD q undef = .pointer (some ⟨g', 0, none⟩)) (hg : Bx w g cs T) (hg' : Bx w g' cs' U)
    {d d' : TypeDesc} (hu : P.underlying T = some d) (hd : (match d with | .struct _ | .array _ _ => true | _ => false) = true) (hi : (P.info? T).map (·.size) = some cs.size) (hu' : P.underlying U = some d') (hd' : (match d' with | .struct _ | .array _ _ => true | _ => false) = true) (hi' : (P.info? U).map (·.size) = some cs'.size) :
    (results fn tmps).run P w = .ok (.tuple #[.agg cs, .agg cs']) w := by
  have hp' : tmps[p]?.getD undef = .pointer (some ⟨g, 0, none⟩) := by simpa using hp
  have hq' : tmps[q]?.getD undef = .pointer (some ⟨g', 0, none⟩) := by simpa using hq
  simp [results, h, hp', hq', asAddr, run_loadVar_row w g T T cs (0, 0) d hg hu hd hi, run_loadVar_row w g' U U cs' (0, 0) d' hg' hu' hd' hi']

end

theorem fault_size (a b : Value) : (Try.prog.info? 142).map (·.size) = some (#[a, b] : Array Value).size := by kernel_rfl

theorem rdL_has (bs : List UInt8) (ks : List Kd) (s : RS) : HasL ks (rdL bs ks s).1 := by
  induction ks generalizing s with
  | nil => trivial
  | cons k ks ih =>
    refine ⟨?_, ih _⟩
    cases k with
    | num n => exact rd_num bs _ s (Or.inl ⟨_, rfl⟩)
    | int => exact rd_num bs _ s (Or.inr rfl)
    | float => exact rd_float bs s
    | bool => exact rd_bool bs s
    | fix n => exact rd_fix bs n s

def tapZ : Tp := ⟨0, 0, ⟨#[]⟩, 0, 0, 0⟩
/-- A record out of its cells. -/
def tapOf : List Value → Tp
  | [.int _ dev, .int _ ctr, .string tok, .int _ kind, .int _ place, .int _ time] => ⟨dev, ctr, tok, kind, place, time⟩
  | _ => tapZ

theorem tap_shape (bs : List UInt8) (s : RS) : (rdL bs tapK s).1 = (tpC (tapOf (rdL bs tapK s).1)).toList := by
  have h := rdL_has bs tapK s
  generalize (rdL bs tapK s).1 = vs at h ⊢
  match vs, h with
  | [v0, v1, v2, v3, v4, v5], ⟨⟨_, e0⟩, ⟨_, e1⟩, ⟨_, e2⟩, ⟨_, e3⟩, ⟨_, e4⟩, ⟨_, e5⟩, _⟩ =>
    subst e0 e1 e2 e3 e4 e5
    rfl

theorem tap_size (cs : Array Value) (h : cs.size = 6) : (Try.prog.info? 39).map (·.size) = some cs.size := by rw [h]; kernel_rfl

/-- What reading answers: the record, the fault. -/
def tapRd (bs : List UInt8) : Tp × Int × Int :=
  if (endR (rdL bs tapK s00).2 bs.length).c ≠ 0 then (tapZ, (endR (rdL bs tapK s00).2 bs.length).c, (endR (rdL bs tapK s00).2 bs.length).f)
  else if tapOk (tapOf (rdL bs tapK s00).1) then (tapOf (rdL bs tapK s00).1, 0, 0) else (tapZ, 80, -1)

def ReadTap (w : World) (r : Tp × Int × Int) (e : Ending) (w' : World) : Prop := e = .returned (.tuple #[.agg (tpC r.1), .agg #[.int .i64 r.2.1, .int .i64 r.2.2]]) ∧ Fr (fun _ => False) w w'

def entryZ : En := ⟨0, ⟨#[]⟩, 0, false⟩
/-- A record out of its cells. -/
def entryOf : List Value → En
  | [.int _ run, .string tok, .int _ amount, .bool paid] => ⟨run, tok, amount, paid⟩
  | _ => entryZ

theorem entry_shape (bs : List UInt8) (s : RS) : (rdL bs entryK s).1 = (enC (entryOf (rdL bs entryK s).1)).toList := by
  have h := rdL_has bs entryK s
  generalize (rdL bs entryK s).1 = vs at h ⊢
  match vs, h with
  | [v0, v1, v2, v3], ⟨⟨_, e0⟩, ⟨_, e1⟩, ⟨_, e2⟩, ⟨_, e3⟩, _⟩ =>
    subst e0 e1 e2 e3
    rfl

/-- What reading answers: the record, the fault. -/
def entryRd (bs : List UInt8) : En × Int × Int :=
  if (endR (rdL bs entryK s00).2 bs.length).c ≠ 0 then (entryZ, (endR (rdL bs entryK s00).2 bs.length).c, (endR (rdL bs entryK s00).2 bs.length).f)
  else if entryOk (entryOf (rdL bs entryK s00).1) then (entryOf (rdL bs entryK s00).1, 0, 0) else (entryZ, 80, -1)

def ReadEntry (w : World) (r : En × Int × Int) (e : Ending) (w' : World) : Prop := e = .returned (.tuple #[.agg (enC r.1), .agg #[.int .i64 r.2.1, .int .i64 r.2.2]]) ∧ Fr (fun _ => False) w w'

def accountZ : Ac := ⟨⟨#[]⟩, 0, 0⟩
/-- A record out of its cells. -/
def accountOf : List Value → Ac
  | [.string tok, .int _ charged, .int _ paid] => ⟨tok, charged, paid⟩
  | _ => accountZ

theorem account_shape (bs : List UInt8) (s : RS) : (rdL bs accountK s).1 = (acC (accountOf (rdL bs accountK s).1)).toList := by
  have h := rdL_has bs accountK s
  generalize (rdL bs accountK s).1 = vs at h ⊢
  match vs, h with
  | [v0, v1, v2], ⟨⟨_, e0⟩, ⟨_, e1⟩, ⟨_, e2⟩, _⟩ =>
    subst e0 e1 e2
    rfl

theorem account_size (cs : Array Value) (h : cs.size = 3) : (Try.prog.info? 165).map (·.size) = some cs.size := by rw [h]; kernel_rfl

/-- What reading answers: the record, the fault. -/
def accountRd (bs : List UInt8) : Ac × Int × Int :=
  if (endR (rdL bs accountK s00).2 bs.length).c ≠ 0 then (accountZ, (endR (rdL bs accountK s00).2 bs.length).c, (endR (rdL bs accountK s00).2 bs.length).f)
  else if accountOk (accountOf (rdL bs accountK s00).1) then (accountOf (rdL bs accountK s00).1, 0, 0) else (accountZ, 80, -1)

def ReadAccount (w : World) (r : Ac × Int × Int) (e : Ending) (w' : World) : Prop := e = .returned (.tuple #[.agg (acC r.1), .agg #[.int .i64 r.2.1, .int .i64 r.2.2]]) ∧ Fr (fun _ => False) w w'

end Go.Proofs.Ythgkifkcckandaa

