/- Records out of bytes: taken, the exported calls. -/
import Derived.Test.YtkjoojamkbpfcaaGreatN7
import Derived.Deep.RegionLaw
namespace Go.Proofs.YtkjoojamkbpfcaaGreat
open Go.RowKit

/-- The state in which a reader begins. -/
abbrev s00 : RS := ⟨0, 0, 0, 0⟩

/-- A value of a kind. -/
def Kd.has : Kd → Value → Prop
  | .num _, v => ∃ n, v = .int .i64 n
  | .int, v => ∃ n, v = .int .i64 n
  | .float, v => ∃ n, v = .float .f64 n
  | .bool, v => ∃ n, v = .bool n
  | .fix _, v => ∃ n, v = .string n

def HasL : List Kd → List Value → Prop
  | [], [] => True
  | k :: ks, v :: vs => k.has v ∧ HasL ks vs
  | _, _ => False

theorem four_boxes (w : World) (a b c d : Array Value) (ta tb tc td : TypeId) : Fr (fun _ => False) w ((((w.alloc (.cells a ta)).alloc (.cells b tb)).alloc (.cells c tc)).alloc (.cells d td)) ∧ Bx ((((w.alloc (.cells a ta)).alloc (.cells b tb)).alloc (.cells c tc)).alloc (.cells d td)) w.heap.size a ta ∧
    Bx ((((w.alloc (.cells a ta)).alloc (.cells b tb)).alloc (.cells c tc)).alloc (.cells d td)) (w.heap.size + 1) b tb ∧ Bx ((((w.alloc (.cells a ta)).alloc (.cells b tb)).alloc (.cells c tc)).alloc (.cells d td)) (w.heap.size + 1 + 1) c tc ∧ Bx ((((w.alloc (.cells a ta)).alloc (.cells b tb)).alloc (.cells c tc)).alloc (.cells d td)) (w.heap.size + 1 + 1 + 1) d td := by
  have h1 := Bx.new w a ta
  have h2 := Bx.new (w.alloc (.cells a ta)) b tb
  have h3 := Bx.new ((w.alloc (.cells a ta)).alloc (.cells b tb)) c tc
  have h4 := Bx.new (((w.alloc (.cells a ta)).alloc (.cells b tb)).alloc (.cells c tc)) d td
  simp only [heap_alloc] at h2 h3 h4
  exact ⟨((((Fr.refl _ w).alloc _).alloc _).alloc _).alloc _, ((h1.alloc _).alloc _).alloc _, (h2.alloc _).alloc _, h3.alloc _, h4⟩

section
variable {P : Program} {ops : Array Oper} {rest : List Oper} {o : Oper} {a : Act} {w : World} {Q : Exit → Act → World → Prop} {K : Act → World → Prop} {E : Prop} {T : TypeId} {g : Nat} {cs : Array Value}

theorem wpList_load_bx (hgd : o.guard = none) (x : Operand) (ho : o.op = .load T x) (hx : a.eval x = .pointer (some ⟨g, 0, none⟩)) (hg : Bx w g cs T) {d : TypeDesc} (hu : P.underlying T = some d) (hd : (match d with | .struct _ | .array _ _ => true | _ => false) = true)
    (hi : (P.info? T).map (·.size) = some cs.size) (h : wpList P ops Q rest (a.put o.dst (.agg cs)) w) : wpList P ops Q (o :: rest) a w := wpList_load_row hgd T x ho g hx T cs (0, 0) d hg hu hd hi h

theorem wpList_store_bx {old : Array Value} (hgd : o.guard = none) (x y : Operand) (ho : o.op = .store T x y) (hx : a.eval x = .pointer (some ⟨g, 0, none⟩)) (hy : a.eval y = .agg cs) (hg : Bx w g old T) (hi : (P.info? T).map (·.size) = some cs.size) (hold : old.size = cs.size) (h1 : cs.all (·.oneCell') = true)
    (h : wpList P ops Q rest (a.put o.dst undef) (w.setRow g cs)) : wpList P ops Q (o :: rest) a w := wpList_store_row hgd T x y ho g cs hx hy T old hg hi hold h1 h

theorem step_load_bx (hgd : o.guard = none) (x : Operand) (ho : o.op = .load T x) (hx : a.eval x = .pointer (some ⟨g, 0, none⟩)) (hg : Bx w g cs T) {d : TypeDesc} (hu : P.underlying T = some d) (hd : (match d with | .struct _ | .array _ _ => true | _ => false) = true)
    (hi : (P.info? T).map (·.size) = some cs.size) (h : K (a.put o.dst (.agg cs)) w) : if Region.wanted o (yielded ops a.tmps) = true then Oper.wp P o a w K Q else E := by
  have hw : Region.wanted o (yielded ops a.tmps) = true := by simp [Region.wanted, hgd]
  rw [if_pos hw]
  exact wp_load_row T x ho g hx T cs (0, 0) d hg hu hd hi h

theorem step_store_bx {old : Array Value} (hgd : o.guard = none) (x y : Operand) (ho : o.op = .store T x y) (hx : a.eval x = .pointer (some ⟨g, 0, none⟩)) (hy : a.eval y = .agg cs) (hg : Bx w g old T) (hi : (P.info? T).map (·.size) = some cs.size) (hold : old.size = cs.size) (h1 : cs.all (·.oneCell') = true)
    (h : K (a.put o.dst undef) (w.setRow g cs)) : if Region.wanted o (yielded ops a.tmps) = true then Oper.wp P o a w K Q else E := by
  have hw : Region.wanted o (yielded ops a.tmps) = true := by simp [Region.wanted, hgd]
  rw [if_pos hw]
  exact wp_store_row T x y ho g cs hx hy T old hg hi hold h1 h

theorem Bx.setRow {old : Array Value} (h : Bx w g old T) (cs : Array Value) : Bx (w.setRow g cs) g cs T := setRow_heap _ _ _ _ _ _ h
theorem Bx.setRowOther {b : Nat} (h : Bx w b cs T) (hne : b ≠ g) (vs : Array Value) : Bx (w.setRow g vs) b cs T := (setRow_other _ _ _ _ hne).trans h

theorem results_bx2 {fn : Func} {p q : Tmp} {U : TypeId} {g' : Nat} {cs' : Array Value} (h : fn.results = #[.cell p T, .cell q U]) (tmps : Array Value) (hp : tmps.getD p undef = .pointer (some ⟨g, 0, none⟩)) (hq : tmps.getD q undef = .pointer (some ⟨g', 0, none⟩)) (hg : Bx w g cs T) (hg' : Bx w g' cs' U)
    {d d' : TypeDesc} (hu : P.underlying T = some d) (hd : (match d with | .struct _ | .array _ _ => true | _ => false) = true) (hi : (P.info? T).map (·.size) = some cs.size) (hu' : P.underlying U = some d') (hd' : (match d' with | .struct _ | .array _ _ => true | _ => false) = true) (hi' : (P.info? U).map (·.size) = some cs'.size) :
    (results fn tmps).run P w = .ok (.tuple #[.agg cs, .agg cs']) w := by
  have hp' : tmps[p]?.getD undef = .pointer (some ⟨g, 0, none⟩) := by simpa using hp
  have hq' : tmps[q]?.getD undef = .pointer (some ⟨g', 0, none⟩) := by simpa using hq
  simp [results, h, hp', hq', asAddr, run_loadVar_row w g T T cs (0, 0) d hg hu hd hi, run_loadVar_row w g' U U cs' (0, 0) d' hg' hu' hd' hi']

end

theorem fault_size (a b : Value) : (Tryz.prog.info? 37).map (·.size) = some (#[a, b] : Array Value).size := by kernel_rfl

theorem rdL_has (bs : List UInt8) (ks : List Kd) (s : RS) : HasL ks (rdL bs ks s).1 := by
  induction ks generalizing s with
  | nil => trivial
  | cons k ks ih =>
    refine ⟨?_, ih _⟩
    cases k with
    | num n => exact rd_num bs _ s (Or.inl ⟨_, rfl⟩)
    | int => exact rd_num bs _ s (Or.inr rfl)
    | float => exact rd_float bs s
    | bool => exact rd_bool bs s
    | fix n => exact rd_fix bs n s

def tapZ : Tp := ⟨0, 0, ⟨#[]⟩, 0, 0, 0⟩
/-- A record out of its cells. -/
def tapOf : List Value → Tp
  | [.int _ dev, .int _ ctr, .string tok, .int _ kind, .int _ place, .int _ time] => ⟨dev, ctr, tok, kind, place, time⟩
  | _ => tapZ

theorem tap_shape (bs : List UInt8) (s : RS) : (rdL bs tapK s).1 = (tpC (tapOf (rdL bs tapK s).1)).toList := by
  have h := rdL_has bs tapK s
  generalize (rdL bs tapK s).1 = vs at h ⊢
  match vs, h with
  | [v0, v1, v2, v3, v4, v5], ⟨⟨_, e0⟩, ⟨_, e1⟩, ⟨_, e2⟩, ⟨_, e3⟩, ⟨_, e4⟩, ⟨_, e5⟩, _⟩ =>
    subst e0 e1 e2 e3 e4 e5
    rfl

theorem tap_size (cs : Array Value) (h : cs.size = 6) : (Tryz.prog.info? 47).map (·.size) = some cs.size := by rw [h]; kernel_rfl

/-- What reading answers: the record, the fault. -/
def tapRd (bs : List UInt8) : Tp × Int × Int :=
  if (endR (rdL bs tapK s00).2 bs.length).c ≠ 0 then (tapZ, (endR (rdL bs tapK s00).2 bs.length).c, (endR (rdL bs tapK s00).2 bs.length).f)
  else if tapOk (tapOf (rdL bs tapK s00).1) then (tapOf (rdL bs tapK s00).1, 0, 0) else (tapZ, 80, -1)

def ReadTap (w : World) (r : Tp × Int × Int) (e : Ending) (w' : World) : Prop := e = .returned (.tuple #[.agg (tpC r.1), .agg #[.int .i64 r.2.1, .int .i64 r.2.2]]) ∧ Fr (fun _ => False) w w'

set_option maxHeartbeats 2000000 in
theorem takenTap_any (w : World) (ao : Option Addr) (cap : Nat) (bs : List UInt8) (hB : BIn w ao cap bs) :
    Calls Tryz.prog 34 #[.slice ao bs.length cap, .func (Fn.func 32) #[] #[], .func (Fn.func 33) #[] #[]] w (ReadTap w (tapRd bs)) := by
  have HB := hide hB
  have HSH := hide (tap_shape bs s00)
  obtain ⟨q, Hq⟩ : ∃ q, Hid (rdL bs tapK s00 = q) := ⟨_, rfl⟩
  obtain ⟨t, Ht⟩ : ∃ t, Hid (tapOf q.1 = t) := ⟨_, rfl⟩
  obtain ⟨z, Hz⟩ : ∃ z, Hid (endR q.2 bs.length = z) := ⟨_, rfl⟩
  obtain ⟨R, HRe⟩ : ∃ R, Hid (tapRd bs = R) := ⟨_, rfl⟩
  have HR : Hid (R = if z.c ≠ 0 then (tapZ, z.c, z.f) else if tapOk t then (t, 0, 0) else (tapZ, 80, -1)) := hide (by rw [← unhide HRe]; unfold tapRd; rw [unhide Hq, unhide Ht, unhide Hz])
  rw [unhide Hq, unhide Ht] at HSH
  rw [unhide HRe]
  have RE := hide (tapError_any t)
  unfold tpC at HSH RE
  obtain ⟨dev, ctr, tok, kind, place, time⟩ := t
  simp only at HSH RE
  clear hB HRe
  go_enter Tryz.func34, Tryz.ntmps34
  go_wp2_with fail
  have HX0 : Hid (Fr (fun _ => False) w ((((w.alloc (.cells #[.int .i64 0, .int .i64 0, .string ⟨#[]⟩, .int .i64 0, .int .i64 0, .int .i64 0] 47)).alloc (.cells #[.int .i64 0, .int .i64 0] 37)).alloc (.cells #[.int .i64 0, .int .i64 0, .string ⟨#[]⟩, .int .i64 0, .int .i64 0, .int .i64 0] 47)).alloc (.cells #[.int .i64 0, .int .i64 0, .string ⟨#[]⟩, .int .i64 0, .int .i64 0, .int .i64 0] 47)) ∧ Bx ((((w.alloc (.cells #[.int .i64 0, .int .i64 0, .string ⟨#[]⟩, .int .i64 0, .int .i64 0, .int .i64 0] 47)).alloc (.cells #[.int .i64 0, .int .i64 0] 37)).alloc (.cells #[.int .i64 0, .int .i64 0, .string ⟨#[]⟩, .int .i64 0, .int .i64 0, .int .i64 0] 47)).alloc (.cells #[.int .i64 0, .int .i64 0, .string ⟨#[]⟩, .int .i64 0, .int .i64 0, .int .i64 0] 47)) w.heap.size #[.int .i64 0, .int .i64 0, .string ⟨#[]⟩, .int .i64 0, .int .i64 0, .int .i64 0] 47 ∧ Bx ((((w.alloc (.cells #[.int .i64 0, .int .i64 0, .string ⟨#[]⟩, .int .i64 0, .int .i64 0, .int .i64 0] 47)).alloc (.cells #[.int .i64 0, .int .i64 0] 37)).alloc (.cells #[.int .i64 0, .int .i64 0, .string ⟨#[]⟩, .int .i64 0, .int .i64 0, .int .i64 0] 47)).alloc (.cells #[.int .i64 0, .int .i64 0, .string ⟨#[]⟩, .int .i64 0, .int .i64 0, .int .i64 0] 47)) (w.heap.size + 1) #[.int .i64 0, .int .i64 0] 37 ∧ Bx ((((w.alloc (.cells #[.int .i64 0, .int .i64 0, .string ⟨#[]⟩, .int .i64 0, .int .i64 0, .int .i64 0] 47)).alloc (.cells #[.int .i64 0, .int .i64 0] 37)).alloc (.cells #[.int .i64 0, .int .i64 0, .string ⟨#[]⟩, .int .i64 0, .int .i64 0, .int .i64 0] 47)).alloc (.cells #[.int .i64 0, .int .i64 0, .string ⟨#[]⟩, .int .i64 0, .int .i64 0, .int .i64 0] 47)) (w.heap.size + 1 + 1) #[.int .i64 0, .int .i64 0, .string ⟨#[]⟩, .int .i64 0, .int .i64 0, .int .i64 0] 47 ∧ Bx ((((w.alloc (.cells #[.int .i64 0, .int .i64 0, .string ⟨#[]⟩, .int .i64 0, .int .i64 0, .int .i64 0] 47)).alloc (.cells #[.int .i64 0, .int .i64 0] 37)).alloc (.cells #[.int .i64 0, .int .i64 0, .string ⟨#[]⟩, .int .i64 0, .int .i64 0, .int .i64 0] 47)).alloc (.cells #[.int .i64 0, .int .i64 0, .string ⟨#[]⟩, .int .i64 0, .int .i64 0, .int .i64 0] 47)) (w.heap.size + 1 + 1 + 1) #[.int .i64 0, .int .i64 0, .string ⟨#[]⟩, .int .i64 0, .int .i64 0, .int .i64 0] 47) := hide (four_boxes w _ _ _ _ _ _ _ _)
  obtain ⟨B, HBe⟩ : ∃ B, Hid (w.heap.size = B) := ⟨_, rfl⟩
  rw [unhide HBe] at HX0 ⊢
  generalize ((((w.alloc (.cells #[.int .i64 0, .int .i64 0, .string ⟨#[]⟩, .int .i64 0, .int .i64 0, .int .i64 0] 47)).alloc (.cells #[.int .i64 0, .int .i64 0] 37)).alloc (.cells #[.int .i64 0, .int .i64 0, .string ⟨#[]⟩, .int .i64 0, .int .i64 0, .int .i64 0] 47)).alloc (.cells #[.int .i64 0, .int .i64 0, .string ⟨#[]⟩, .int .i64 0, .int .i64 0, .int .i64 0] 47)) = w0 at *
  obtain ⟨R1, hR1⟩ : ∃ x, B + 1 = x := ⟨_, rfl⟩
  obtain ⟨X0, hX0⟩ : ∃ x, B + 1 + 1 = x := ⟨_, rfl⟩
  obtain ⟨X1, hX1⟩ : ∃ x, B + 1 + 1 + 1 = x := ⟨_, rfl⟩
  rw [hX1, hX0, hR1] at HX0 ⊢
  have HD : Hid (B < R1 ∧ R1 < X0 ∧ X0 < X1 ∧ X1 < w0.heap.size ∧ w.heap.size = B) := hide ⟨by omega, by omega, by omega, (unhide HX0).2.2.2.2.lt, unhide HBe⟩
  clear hR1 hX0 hX1
  have hbin := (unhide HB).keep (unhide HX0).1
  refine (newreader_any _ ao cap bs hbin.nil hbin.cell hbin.fit).mono ?_
  rintro e w1 ⟨p, g, rfl, hR, hF1, hg, hp⟩
  have HX1 : Hid (Fr (fun _ => False) w w1 ∧ Bx w1 B #[.int .i64 0, .int .i64 0, .string ⟨#[]⟩, .int .i64 0, .int .i64 0, .int .i64 0] 47 ∧ Bx w1 R1 #[.int .i64 0, .int .i64 0] 37 ∧ Bx w1 X0 #[.int .i64 0, .int .i64 0, .string ⟨#[]⟩, .int .i64 0, .int .i64 0, .int .i64 0] 47 ∧ Bx w1 X1 #[.int .i64 0, .int .i64 0, .string ⟨#[]⟩, .int .i64 0, .int .i64 0, .int .i64 0] 47) := hide (by
    obtain ⟨k0, k1, k2, k3, k4⟩ := unhide HX0
    exact ⟨k0.trans hF1 (fun _ _ t => t), k1.keep hF1, k2.keep hF1, k3.keep hF1, k4.keep hF1⟩)
  have HD1 : Hid (X1 < p ∧ X1 < g) := hide (by obtain ⟨d1, d2, d3, d4, d5⟩ := unhide HD; omega)
  have HR1 := hide hR
  clear hR hF1 hg hp hbin HX0
  go_wp2_with fail
  have HX2 : Hid (Fr (fun _ => False) w (w1.alloc (.cells #[.pointer none, .pointer (some ⟨p, 0, none⟩)] 59)) ∧ Bx (w1.alloc (.cells #[.pointer none, .pointer (some ⟨p, 0, none⟩)] 59)) B #[.int .i64 0, .int .i64 0, .string ⟨#[]⟩, .int .i64 0, .int .i64 0, .int .i64 0] 47 ∧ Bx (w1.alloc (.cells #[.pointer none, .pointer (some ⟨p, 0, none⟩)] 59)) R1 #[.int .i64 0, .int .i64 0] 37 ∧ Bx (w1.alloc (.cells #[.pointer none, .pointer (some ⟨p, 0, none⟩)] 59)) X1 #[.int .i64 0, .int .i64 0, .string ⟨#[]⟩, .int .i64 0, .int .i64 0, .int .i64 0] 47 ∧ Bx (w1.alloc (.cells #[.pointer none, .pointer (some ⟨p, 0, none⟩)] 59)) w1.heap.size #[.pointer none, .pointer (some ⟨p, 0, none⟩)] 59) := hide (by
    obtain ⟨k0, k1, k2, k3, k4⟩ := unhide HX1
    exact ⟨k0.alloc _, k1.alloc _, k2.alloc _, k4.alloc _, Bx.new _ _ _⟩)
  have HB2 : Hid (RB (w1.alloc (.cells #[.pointer none, .pointer (some ⟨p, 0, none⟩)] 59)) p g X0 bs s00 #[.int .i64 0, .int .i64 0, .string ⟨#[]⟩, .int .i64 0, .int .i64 0, .int .i64 0] 47) := hide ⟨RAt.alloc (unhide HR1) _, (unhide HX1).2.2.2.1.alloc _, by have := unhide HD; have := unhide HD1; omega, fun _ => by have := unhide HD; have := unhide HD1; omega⟩
  have HN : Hid (w1.heap.size ≠ p ∧ w1.heap.size ≠ X0) := hide ⟨by have := RAt.lt (unhide HR1); omega, by have := (unhide HX1).2.2.2.1.lt; omega⟩
  generalize w1.alloc (.cells #[.pointer none, .pointer (some ⟨p, 0, none⟩)] 59) = w2 at *
  generalize w1.heap.size = N at *
  refine (tap_r _ _ _ _ _ _ (unhide HB2)).mono ?_
  rw [unhide Hq, unhide HSH]
  rintro e w3 ⟨rfl, hB3, hF3⟩
  have HX3 : Hid (Fr (fun _ => False) w w3 ∧ Bx w3 B #[.int .i64 0, .int .i64 0, .string ⟨#[]⟩, .int .i64 0, .int .i64 0, .int .i64 0] 47 ∧ Bx w3 R1 #[.int .i64 0, .int .i64 0] 37 ∧ Bx w3 X1 #[.int .i64 0, .int .i64 0, .string ⟨#[]⟩, .int .i64 0, .int .i64 0, .int .i64 0] 47 ∧ Bx w3 N #[.pointer none, .pointer (some ⟨p, 0, none⟩)] 59) := hide (by
    obtain ⟨k0, k1, k2, k3, k4⟩ := unhide HX2
    obtain ⟨d1, d2, d3, d4, d5⟩ := unhide HD
    obtain ⟨d6, d7⟩ := unhide HD1
    obtain ⟨d8, d9⟩ := unhide HN
    exact ⟨k0.trans hF3 (fun _ _ t => by omega), k1.frame hF3 (by omega), k2.frame hF3 (by omega), k3.frame hF3 (by omega), k4.frame hF3 (by omega)⟩)
  have HB3 : Hid (RB w3 p g X0 bs q.2 #[.int .i64 dev, .int .i64 ctr, .string tok, .int .i64 kind, .int .i64 place, .int .i64 time] 47) := hide hB3
  have n1 : w3.cell? ⟨N, 1, none⟩ = some (.pointer (some ⟨p, 0, none⟩)) := (unhide HX3).2.2.2.2.cell 1
  clear hB3 hF3 HX2 HB2 HX1 HR1
  go_wp2_with fail
  refine (end_any (unhide HB3).r).mono ?_
  rw [unhide Hz]
  rintro e w4 ⟨rfl, hR4, hF4⟩
  have HX4 : Hid (Fr (fun _ => False) w w4 ∧ Bx w4 B #[.int .i64 0, .int .i64 0, .string ⟨#[]⟩, .int .i64 0, .int .i64 0, .int .i64 0] 47 ∧ Bx w4 R1 #[.int .i64 0, .int .i64 0] 37 ∧ Bx w4 X1 #[.int .i64 0, .int .i64 0, .string ⟨#[]⟩, .int .i64 0, .int .i64 0, .int .i64 0] 47 ∧ Bx w4 X0 #[.int .i64 dev, .int .i64 ctr, .string tok, .int .i64 kind, .int .i64 place, .int .i64 time] 47) := hide (by
    obtain ⟨k0, k1, k2, k3, k4⟩ := unhide HX3
    obtain ⟨d1, d2, d3, d4, d5⟩ := unhide HD
    obtain ⟨d6, d7⟩ := unhide HD1
    exact ⟨k0.trans hF4 (fun _ _ t => by omega), k1.frame hF4 (by omega), k2.frame hF4 (by omega), k3.frame hF4 (by omega), (unhide HB3).x.frame hF4 (unhide HB3).np⟩)
  clear hR4 hF4 HX3 HB3 n1
  have zc := unhide HR
  generalize hzc : z.c = c at zc ⊢
  generalize hzf : z.f = f at zc ⊢
  have HRR := hide zc
  clear zc hzc hzf
  have HX5 : Hid (Fr (fun _ => False) w (w4.alloc (.cells #[.int .i64 c, .int .i64 f] 37)) ∧ Bx (w4.alloc (.cells #[.int .i64 c, .int .i64 f] 37)) B #[.int .i64 0, .int .i64 0, .string ⟨#[]⟩, .int .i64 0, .int .i64 0, .int .i64 0] 47 ∧ Bx (w4.alloc (.cells #[.int .i64 c, .int .i64 f] 37)) R1 #[.int .i64 0, .int .i64 0] 37 ∧ Bx (w4.alloc (.cells #[.int .i64 c, .int .i64 f] 37)) X1 #[.int .i64 0, .int .i64 0, .string ⟨#[]⟩, .int .i64 0, .int .i64 0, .int .i64 0] 47 ∧ Bx (w4.alloc (.cells #[.int .i64 c, .int .i64 f] 37)) X0 #[.int .i64 dev, .int .i64 ctr, .string tok, .int .i64 kind, .int .i64 place, .int .i64 time] 47 ∧ Bx (w4.alloc (.cells #[.int .i64 c, .int .i64 f] 37)) w4.heap.size #[.int .i64 c, .int .i64 f] 37) := hide (by
    obtain ⟨k0, k1, k2, k3, k4⟩ := unhide HX4
    exact ⟨k0.alloc _, k1.alloc _, k2.alloc _, k3.alloc _, k4.alloc _, Bx.new _ _ _⟩)
  have HFB : Hid (X1 < w4.heap.size) := hide (unhide HX4).2.2.2.1.lt
  by_cases hc : c = 0
  · have hcb : (c != 0) = false := by simp [hc]
    obtain ⟨b, hb⟩ : ∃ b, tapOk ⟨dev, ctr, tok, kind, place, time⟩ = b := ⟨_, rfl⟩
    have HRE : Hid (R = if b then (⟨dev, ctr, tok, kind, place, time⟩, 0, 0) else (tapZ, 80, -1)) := hide (by rw [unhide HRR, if_neg (fun h => h hc), hb])
    have HEV : Hid (tapE ⟨dev, ctr, tok, kind, place, time⟩ = if b then 0 else 80) := hide (by unfold tapE; rw [hb])
    rw [unhide HEV] at RE
    rw [unhide HRE]
    clear hc HRR HEV hb
    cases b
    · simp only [Bool.false_eq_true, if_false] at RE ⊢
      have y0 : (w4.alloc (.cells #[.int .i64 c, .int .i64 f] 37)).cell? ⟨w4.heap.size, 0, none⟩ = some (.int .i64 c) := (unhide HX5).2.2.2.2.2.cell 0
      have x0 : (w4.alloc (.cells #[.int .i64 c, .int .i64 f] 37)).cell? ⟨X0, 0, none⟩ = some (.int .i64 dev) := (unhide HX5).2.2.2.2.1.cell 0
      have x1 : (w4.alloc (.cells #[.int .i64 c, .int .i64 f] 37)).cell? ⟨X0, 1, none⟩ = some (.int .i64 ctr) := (unhide HX5).2.2.2.2.1.cell 1
      have x2 : (w4.alloc (.cells #[.int .i64 c, .int .i64 f] 37)).cell? ⟨X0, 2, none⟩ = some (.string tok) := (unhide HX5).2.2.2.2.1.cell 2
      have x3 : (w4.alloc (.cells #[.int .i64 c, .int .i64 f] 37)).cell? ⟨X0, 3, none⟩ = some (.int .i64 kind) := (unhide HX5).2.2.2.2.1.cell 3
      have x4 : (w4.alloc (.cells #[.int .i64 c, .int .i64 f] 37)).cell? ⟨X0, 4, none⟩ = some (.int .i64 place) := (unhide HX5).2.2.2.2.1.cell 4
      have x5 : (w4.alloc (.cells #[.int .i64 c, .int .i64 f] 37)).cell? ⟨X0, 5, none⟩ = some (.int .i64 time) := (unhide HX5).2.2.2.2.1.cell 5
      go_wp2_with fail
      refine (unhide RE _).mono ?_
      rintro e w5 ⟨rfl, hF5⟩
      obtain ⟨k0, k1, k2, k3, k4, k5⟩ := unhide HX5
      have HX6 : Hid (Fr (fun _ => False) w w5 ∧ Bx w5 B #[.int .i64 0, .int .i64 0, .string ⟨#[]⟩, .int .i64 0, .int .i64 0, .int .i64 0] 47 ∧ Bx w5 R1 #[.int .i64 0, .int .i64 0] 37 ∧ Bx w5 X1 #[.int .i64 0, .int .i64 0, .string ⟨#[]⟩, .int .i64 0, .int .i64 0, .int .i64 0] 47 ∧ Bx w5 X0 #[.int .i64 dev, .int .i64 ctr, .string tok, .int .i64 kind, .int .i64 place, .int .i64 time] 47) := hide ⟨k0.trans hF5 (fun _ _ t => t), k1.keep hF5, k2.keep hF5, k3.keep hF5, k4.keep hF5⟩
      clear k0 k1 k2 k3 k4 k5 hF5 y0 x0 x1 x2 x3 x4 x5
      have HBL : Hid (¬ B < w.heap.size ∧ ¬ R1 < w.heap.size) := hide (by have := unhide HD; omega)
      obtain ⟨d1, d2, d3, d4, d5⟩ := unhide HD
      have hBR : B ≠ R1 := by omega
      have hRB : R1 ≠ B := by omega
      have hBX : B ≠ X1 := by omega
      have hXB : X1 ≠ B := by omega
      have hBY : B ≠ X0 := by omega
      have hYB : X0 ≠ B := by omega
      clear d1 d2 d3 d4 d5
      have x0 : w5.cell? ⟨X1, 0, none⟩ = some (.int .i64 0) := (unhide HX6).2.2.2.1.cell 0
      have x1 : w5.cell? ⟨X1, 1, none⟩ = some (.int .i64 0) := (unhide HX6).2.2.2.1.cell 1
      have x2 : w5.cell? ⟨X1, 2, none⟩ = some (.string ⟨#[]⟩) := (unhide HX6).2.2.2.1.cell 2
      have x3 : w5.cell? ⟨X1, 3, none⟩ = some (.int .i64 0) := (unhide HX6).2.2.2.1.cell 3
      have x4 : w5.cell? ⟨X1, 4, none⟩ = some (.int .i64 0) := (unhide HX6).2.2.2.1.cell 4
      have x5 : w5.cell? ⟨X1, 5, none⟩ = some (.int .i64 0) := (unhide HX6).2.2.2.1.cell 5
      have r0 : w5.cell? ⟨B, 0, none⟩ = some (.int .i64 0) := (unhide HX6).2.1.cell 0
      have s0 : w5.frozen? ⟨B, 0, none⟩ = false := (unhide HX6).2.1.frozen 0
      have r1 : w5.cell? ⟨B, 1, none⟩ = some (.int .i64 0) := (unhide HX6).2.1.cell 1
      have s1 : w5.frozen? ⟨B, 1, none⟩ = false := (unhide HX6).2.1.frozen 1
      have r2 : w5.cell? ⟨B, 2, none⟩ = some (.string ⟨#[]⟩) := (unhide HX6).2.1.cell 2
      have s2 : w5.frozen? ⟨B, 2, none⟩ = false := (unhide HX6).2.1.frozen 2
      have r3 : w5.cell? ⟨B, 3, none⟩ = some (.int .i64 0) := (unhide HX6).2.1.cell 3
      have s3 : w5.frozen? ⟨B, 3, none⟩ = false := (unhide HX6).2.1.frozen 3
      have r4 : w5.cell? ⟨B, 4, none⟩ = some (.int .i64 0) := (unhide HX6).2.1.cell 4
      have s4 : w5.frozen? ⟨B, 4, none⟩ = false := (unhide HX6).2.1.frozen 4
      have r5 : w5.cell? ⟨B, 5, none⟩ = some (.int .i64 0) := (unhide HX6).2.1.cell 5
      have s5 : w5.frozen? ⟨B, 5, none⟩ = false := (unhide HX6).2.1.frozen 5
      have u0 : w5.cell? ⟨R1, 0, none⟩ = some (.int .i64 0) := (unhide HX6).2.2.1.cell 0
      have v0 : w5.frozen? ⟨R1, 0, none⟩ = false := (unhide HX6).2.2.1.frozen 0
      have u1 : w5.cell? ⟨R1, 1, none⟩ = some (.int .i64 0) := (unhide HX6).2.2.1.cell 1
      have v1 : w5.frozen? ⟨R1, 1, none⟩ = false := (unhide HX6).2.2.1.frozen 1
      go_wp2
      obtain ⟨k0, k1, k2, k3, k4⟩ := unhide HX6
      have e1 := (Bx.setOther (Bx.setOther (Bx.setCell (Bx.setCell (Bx.setCell (Bx.setCell (Bx.setCell (Bx.setCell k1 0 (.int .i64 0)) 1 (.int .i64 0)) 2 (.string ⟨#[]⟩)) 3 (.int .i64 0)) 4 (.int .i64 0)) 5 (.int .i64 0)) hBR 0 (.int .i64 80)) hBR 1 (.int .i64 (-1)))
      have e2 := (Bx.setCell (Bx.setCell (Bx.setOther (Bx.setOther (Bx.setOther (Bx.setOther (Bx.setOther (Bx.setOther k2 hRB 0 (.int .i64 0)) hRB 1 (.int .i64 0)) hRB 2 (.string ⟨#[]⟩)) hRB 3 (.int .i64 0)) hRB 4 (.int .i64 0)) hRB 5 (.int .i64 0)) 0 (.int .i64 80)) 1 (.int .i64 (-1)))
      have e3 : Fr (fun _ => False) w (((((((((w5.setCell ⟨B, 0, none⟩ (.int .i64 0)).setCell ⟨B, 1, none⟩ (.int .i64 0)).setCell ⟨B, 2, none⟩ (.string ⟨#[]⟩)).setCell ⟨B, 3, none⟩ (.int .i64 0)).setCell ⟨B, 4, none⟩ (.int .i64 0)).setCell ⟨B, 5, none⟩ (.int .i64 0)).setCell ⟨R1, 0, none⟩ (.int .i64 80)).setCell ⟨R1, 1, none⟩ (.int .i64 (-1)))) := (Fr.setCell (Fr.setCell (Fr.setCell (Fr.setCell (Fr.setCell (Fr.setCell (Fr.setCell (Fr.setCell k0 (p := ⟨B, 0, none⟩) (fun h => absurd h (unhide HBL).1) (.int .i64 0)) (p := ⟨B, 1, none⟩) (fun h => absurd h (unhide HBL).1) (.int .i64 0)) (p := ⟨B, 2, none⟩) (fun h => absurd h (unhide HBL).1) (.string ⟨#[]⟩)) (p := ⟨B, 3, none⟩) (fun h => absurd h (unhide HBL).1) (.int .i64 0)) (p := ⟨B, 4, none⟩) (fun h => absurd h (unhide HBL).1) (.int .i64 0)) (p := ⟨B, 5, none⟩) (fun h => absurd h (unhide HBL).1) (.int .i64 0)) (p := ⟨R1, 0, none⟩) (fun h => absurd h (unhide HBL).2) (.int .i64 80)) (p := ⟨R1, 1, none⟩) (fun h => absurd h (unhide HBL).2) (.int .i64 (-1)))
      exact bodyPost_ret (v := .tuple #[.agg #[.int .i64 0, .int .i64 0, .string ⟨#[]⟩, .int .i64 0, .int .i64 0, .int .i64 0], .agg #[.int .i64 80, .int .i64 (-1)]]) (results_bx2 rfl _ rfl rfl e1 e2 Tryz.underlying47 rfl (tap_size _ rfl) Tryz.underlying37 rfl (fault_size _ _)) rfl ⟨by first | rfl | (rw [unhide HRE]; rfl), e3⟩
    · simp only [if_true] at RE ⊢
      have y0 : (w4.alloc (.cells #[.int .i64 c, .int .i64 f] 37)).cell? ⟨w4.heap.size, 0, none⟩ = some (.int .i64 c) := (unhide HX5).2.2.2.2.2.cell 0
      have x0 : (w4.alloc (.cells #[.int .i64 c, .int .i64 f] 37)).cell? ⟨X0, 0, none⟩ = some (.int .i64 dev) := (unhide HX5).2.2.2.2.1.cell 0
      have x1 : (w4.alloc (.cells #[.int .i64 c, .int .i64 f] 37)).cell? ⟨X0, 1, none⟩ = some (.int .i64 ctr) := (unhide HX5).2.2.2.2.1.cell 1
      have x2 : (w4.alloc (.cells #[.int .i64 c, .int .i64 f] 37)).cell? ⟨X0, 2, none⟩ = some (.string tok) := (unhide HX5).2.2.2.2.1.cell 2
      have x3 : (w4.alloc (.cells #[.int .i64 c, .int .i64 f] 37)).cell? ⟨X0, 3, none⟩ = some (.int .i64 kind) := (unhide HX5).2.2.2.2.1.cell 3
      have x4 : (w4.alloc (.cells #[.int .i64 c, .int .i64 f] 37)).cell? ⟨X0, 4, none⟩ = some (.int .i64 place) := (unhide HX5).2.2.2.2.1.cell 4
      have x5 : (w4.alloc (.cells #[.int .i64 c, .int .i64 f] 37)).cell? ⟨X0, 5, none⟩ = some (.int .i64 time) := (unhide HX5).2.2.2.2.1.cell 5
      go_wp2_with fail
      refine (unhide RE _).mono ?_
      rintro e w5 ⟨rfl, hF5⟩
      obtain ⟨k0, k1, k2, k3, k4, k5⟩ := unhide HX5
      have HX6 : Hid (Fr (fun _ => False) w w5 ∧ Bx w5 B #[.int .i64 0, .int .i64 0, .string ⟨#[]⟩, .int .i64 0, .int .i64 0, .int .i64 0] 47 ∧ Bx w5 R1 #[.int .i64 0, .int .i64 0] 37 ∧ Bx w5 X1 #[.int .i64 0, .int .i64 0, .string ⟨#[]⟩, .int .i64 0, .int .i64 0, .int .i64 0] 47 ∧ Bx w5 X0 #[.int .i64 dev, .int .i64 ctr, .string tok, .int .i64 kind, .int .i64 place, .int .i64 time] 47) := hide ⟨k0.trans hF5 (fun _ _ t => t), k1.keep hF5, k2.keep hF5, k3.keep hF5, k4.keep hF5⟩
      clear k0 k1 k2 k3 k4 k5 hF5 y0 x0 x1 x2 x3 x4 x5
      have HBL : Hid (¬ B < w.heap.size ∧ ¬ R1 < w.heap.size) := hide (by have := unhide HD; omega)
      obtain ⟨d1, d2, d3, d4, d5⟩ := unhide HD
      have hBR : B ≠ R1 := by omega
      have hRB : R1 ≠ B := by omega
      have hBX : B ≠ X1 := by omega
      have hXB : X1 ≠ B := by omega
      have hBY : B ≠ X0 := by omega
      have hYB : X0 ≠ B := by omega
      clear d1 d2 d3 d4 d5
      have x0 : w5.cell? ⟨X0, 0, none⟩ = some (.int .i64 dev) := (unhide HX6).2.2.2.2.cell 0
      have x1 : w5.cell? ⟨X0, 1, none⟩ = some (.int .i64 ctr) := (unhide HX6).2.2.2.2.cell 1
      have x2 : w5.cell? ⟨X0, 2, none⟩ = some (.string tok) := (unhide HX6).2.2.2.2.cell 2
      have x3 : w5.cell? ⟨X0, 3, none⟩ = some (.int .i64 kind) := (unhide HX6).2.2.2.2.cell 3
      have x4 : w5.cell? ⟨X0, 4, none⟩ = some (.int .i64 place) := (unhide HX6).2.2.2.2.cell 4
      have x5 : w5.cell? ⟨X0, 5, none⟩ = some (.int .i64 time) := (unhide HX6).2.2.2.2.cell 5
      have r0 : w5.cell? ⟨B, 0, none⟩ = some (.int .i64 0) := (unhide HX6).2.1.cell 0
      have s0 : w5.frozen? ⟨B, 0, none⟩ = false := (unhide HX6).2.1.frozen 0
      have r1 : w5.cell? ⟨B, 1, none⟩ = some (.int .i64 0) := (unhide HX6).2.1.cell 1
      have s1 : w5.frozen? ⟨B, 1, none⟩ = false := (unhide HX6).2.1.frozen 1
      have r2 : w5.cell? ⟨B, 2, none⟩ = some (.string ⟨#[]⟩) := (unhide HX6).2.1.cell 2
      have s2 : w5.frozen? ⟨B, 2, none⟩ = false := (unhide HX6).2.1.frozen 2
      have r3 : w5.cell? ⟨B, 3, none⟩ = some (.int .i64 0) := (unhide HX6).2.1.cell 3
      have s3 : w5.frozen? ⟨B, 3, none⟩ = false := (unhide HX6).2.1.frozen 3
      have r4 : w5.cell? ⟨B, 4, none⟩ = some (.int .i64 0) := (unhide HX6).2.1.cell 4
      have s4 : w5.frozen? ⟨B, 4, none⟩ = false := (unhide HX6).2.1.frozen 4
      have r5 : w5.cell? ⟨B, 5, none⟩ = some (.int .i64 0) := (unhide HX6).2.1.cell 5
      have s5 : w5.frozen? ⟨B, 5, none⟩ = false := (unhide HX6).2.1.frozen 5
      have u0 : w5.cell? ⟨R1, 0, none⟩ = some (.int .i64 0) := (unhide HX6).2.2.1.cell 0
      have v0 : w5.frozen? ⟨R1, 0, none⟩ = false := (unhide HX6).2.2.1.frozen 0
      have u1 : w5.cell? ⟨R1, 1, none⟩ = some (.int .i64 0) := (unhide HX6).2.2.1.cell 1
      have v1 : w5.frozen? ⟨R1, 1, none⟩ = false := (unhide HX6).2.2.1.frozen 1
      go_wp2
      obtain ⟨k0, k1, k2, k3, k4⟩ := unhide HX6
      have e1 := (Bx.setOther (Bx.setOther (Bx.setCell (Bx.setCell (Bx.setCell (Bx.setCell (Bx.setCell (Bx.setCell k1 0 (.int .i64 dev)) 1 (.int .i64 ctr)) 2 (.string tok)) 3 (.int .i64 kind)) 4 (.int .i64 place)) 5 (.int .i64 time)) hBR 0 (.int .i64 0)) hBR 1 (.int .i64 0))
      have e2 := (Bx.setCell (Bx.setCell (Bx.setOther (Bx.setOther (Bx.setOther (Bx.setOther (Bx.setOther (Bx.setOther k2 hRB 0 (.int .i64 dev)) hRB 1 (.int .i64 ctr)) hRB 2 (.string tok)) hRB 3 (.int .i64 kind)) hRB 4 (.int .i64 place)) hRB 5 (.int .i64 time)) 0 (.int .i64 0)) 1 (.int .i64 0))
      have e3 : Fr (fun _ => False) w (((((((((w5.setCell ⟨B, 0, none⟩ (.int .i64 dev)).setCell ⟨B, 1, none⟩ (.int .i64 ctr)).setCell ⟨B, 2, none⟩ (.string tok)).setCell ⟨B, 3, none⟩ (.int .i64 kind)).setCell ⟨B, 4, none⟩ (.int .i64 place)).setCell ⟨B, 5, none⟩ (.int .i64 time)).setCell ⟨R1, 0, none⟩ (.int .i64 0)).setCell ⟨R1, 1, none⟩ (.int .i64 0))) := (Fr.setCell (Fr.setCell (Fr.setCell (Fr.setCell (Fr.setCell (Fr.setCell (Fr.setCell (Fr.setCell k0 (p := ⟨B, 0, none⟩) (fun h => absurd h (unhide HBL).1) (.int .i64 dev)) (p := ⟨B, 1, none⟩) (fun h => absurd h (unhide HBL).1) (.int .i64 ctr)) (p := ⟨B, 2, none⟩) (fun h => absurd h (unhide HBL).1) (.string tok)) (p := ⟨B, 3, none⟩) (fun h => absurd h (unhide HBL).1) (.int .i64 kind)) (p := ⟨B, 4, none⟩) (fun h => absurd h (unhide HBL).1) (.int .i64 place)) (p := ⟨B, 5, none⟩) (fun h => absurd h (unhide HBL).1) (.int .i64 time)) (p := ⟨R1, 0, none⟩) (fun h => absurd h (unhide HBL).2) (.int .i64 0)) (p := ⟨R1, 1, none⟩) (fun h => absurd h (unhide HBL).2) (.int .i64 0))
      exact bodyPost_ret (v := .tuple #[.agg #[.int .i64 dev, .int .i64 ctr, .string tok, .int .i64 kind, .int .i64 place, .int .i64 time], .agg #[.int .i64 0, .int .i64 0]]) (results_bx2 rfl _ rfl rfl e1 e2 Tryz.underlying47 rfl (tap_size _ rfl) Tryz.underlying37 rfl (fault_size _ _)) rfl ⟨by first | rfl | (rw [unhide HRE]; rfl), e3⟩
  · have hcb : (c != 0) = true := by simp [hc]
    have HRE : Hid (R = (tapZ, c, f)) := hide (by rw [unhide HRR, if_pos hc])
    clear hc HRR
    rw [unhide HRE]
    go_wp2_with fail
    generalize w4.alloc (.cells #[.int .i64 c, .int .i64 f] 37) = w5 at *
    generalize w4.heap.size = Fb at *
    have HBL : Hid (¬ B < w.heap.size ∧ ¬ R1 < w.heap.size) := hide (by have := unhide HD; omega)
    have x0 : w5.cell? ⟨X1, 0, none⟩ = some (.int .i64 0) := (unhide HX5).2.2.2.1.cell 0
    have x1 : w5.cell? ⟨X1, 1, none⟩ = some (.int .i64 0) := (unhide HX5).2.2.2.1.cell 1
    have x2 : w5.cell? ⟨X1, 2, none⟩ = some (.string ⟨#[]⟩) := (unhide HX5).2.2.2.1.cell 2
    have x3 : w5.cell? ⟨X1, 3, none⟩ = some (.int .i64 0) := (unhide HX5).2.2.2.1.cell 3
    have x4 : w5.cell? ⟨X1, 4, none⟩ = some (.int .i64 0) := (unhide HX5).2.2.2.1.cell 4
    have x5 : w5.cell? ⟨X1, 5, none⟩ = some (.int .i64 0) := (unhide HX5).2.2.2.1.cell 5
    have y0 : w5.cell? ⟨Fb, 0, none⟩ = some (.int .i64 c) := (unhide HX5).2.2.2.2.2.cell 0
    have y1 : w5.cell? ⟨Fb, 1, none⟩ = some (.int .i64 f) := (unhide HX5).2.2.2.2.2.cell 1
    have r0 : w5.cell? ⟨B, 0, none⟩ = some (.int .i64 0) := (unhide HX5).2.1.cell 0
    have s0 : w5.frozen? ⟨B, 0, none⟩ = false := (unhide HX5).2.1.frozen 0
    have r1 : w5.cell? ⟨B, 1, none⟩ = some (.int .i64 0) := (unhide HX5).2.1.cell 1
    have s1 : w5.frozen? ⟨B, 1, none⟩ = false := (unhide HX5).2.1.frozen 1
    have r2 : w5.cell? ⟨B, 2, none⟩ = some (.string ⟨#[]⟩) := (unhide HX5).2.1.cell 2
    have s2 : w5.frozen? ⟨B, 2, none⟩ = false := (unhide HX5).2.1.frozen 2
    have r3 : w5.cell? ⟨B, 3, none⟩ = some (.int .i64 0) := (unhide HX5).2.1.cell 3
    have s3 : w5.frozen? ⟨B, 3, none⟩ = false := (unhide HX5).2.1.frozen 3
    have r4 : w5.cell? ⟨B, 4, none⟩ = some (.int .i64 0) := (unhide HX5).2.1.cell 4
    have s4 : w5.frozen? ⟨B, 4, none⟩ = false := (unhide HX5).2.1.frozen 4
    have r5 : w5.cell? ⟨B, 5, none⟩ = some (.int .i64 0) := (unhide HX5).2.1.cell 5
    have s5 : w5.frozen? ⟨B, 5, none⟩ = false := (unhide HX5).2.1.frozen 5
    have u0 : w5.cell? ⟨R1, 0, none⟩ = some (.int .i64 0) := (unhide HX5).2.2.1.cell 0
    have v0 : w5.frozen? ⟨R1, 0, none⟩ = false := (unhide HX5).2.2.1.frozen 0
    have u1 : w5.cell? ⟨R1, 1, none⟩ = some (.int .i64 0) := (unhide HX5).2.2.1.cell 1
    have v1 : w5.frozen? ⟨R1, 1, none⟩ = false := (unhide HX5).2.2.1.frozen 1
    obtain ⟨d1, d2, d3, d4, d5⟩ := unhide HD
    have HFL : Hid (X1 < Fb) := unhide HFB
    have hBR : B ≠ R1 := by omega
    have hRB : R1 ≠ B := by omega
    have hBX : B ≠ X1 := by omega
    have hXB : X1 ≠ B := by omega
    have hBF : B ≠ Fb := by have := unhide HFL; omega
    have hFB : Fb ≠ B := hBF.symm
    have hRX : R1 ≠ X1 := by omega
    have hXR : X1 ≠ R1 := by omega
    have hRF : R1 ≠ Fb := by have := unhide HFL; omega
    have hFR : Fb ≠ R1 := hRF.symm
    clear d1 d2 d3 d4 d5
    go_region_held3 (fun w' => w'.cell? ⟨X1, 0, none⟩ = some (.int .i64 0) ∧ w'.cell? ⟨X1, 1, none⟩ = some (.int .i64 0) ∧ w'.cell? ⟨X1, 2, none⟩ = some (.string ⟨#[]⟩) ∧ w'.cell? ⟨X1, 3, none⟩ = some (.int .i64 0) ∧ w'.cell? ⟨X1, 4, none⟩ = some (.int .i64 0) ∧ w'.cell? ⟨X1, 5, none⟩ = some (.int .i64 0) ∧ w'.cell? ⟨Fb, 0, none⟩ = some (.int .i64 c) ∧ w'.cell? ⟨Fb, 1, none⟩ = some (.int .i64 f)) (go_keep) (fail)
    go_wp2
    obtain ⟨k0, k1, k2, k3, k4, k5⟩ := unhide HX5
    have e1 := (Bx.setOther (Bx.setOther (Bx.setCell (Bx.setCell (Bx.setCell (Bx.setCell (Bx.setCell (Bx.setCell k1 0 (.int .i64 0)) 1 (.int .i64 0)) 2 (.string ⟨#[]⟩)) 3 (.int .i64 0)) 4 (.int .i64 0)) 5 (.int .i64 0)) hBR 0 (.int .i64 c)) hBR 1 (.int .i64 f))
    have e2 := (Bx.setCell (Bx.setCell (Bx.setOther (Bx.setOther (Bx.setOther (Bx.setOther (Bx.setOther (Bx.setOther k2 hRB 0 (.int .i64 0)) hRB 1 (.int .i64 0)) hRB 2 (.string ⟨#[]⟩)) hRB 3 (.int .i64 0)) hRB 4 (.int .i64 0)) hRB 5 (.int .i64 0)) 0 (.int .i64 c)) 1 (.int .i64 f))
    have e3 : Fr (fun _ => False) w (((((((((((w5.setCell ⟨B, 0, none⟩ (.int .i64 0)).setCell ⟨B, 1, none⟩ (.int .i64 0)).setCell ⟨B, 2, none⟩ (.string ⟨#[]⟩)).setCell ⟨B, 3, none⟩ (.int .i64 0)).setCell ⟨B, 4, none⟩ (.int .i64 0)).setCell ⟨B, 5, none⟩ (.int .i64 0)).setCell ⟨R1, 0, none⟩ (.int .i64 c)).setCell ⟨R1, 1, none⟩ (.int .i64 f))).drew)) := Fr.drew (Fr.setCell (Fr.setCell (Fr.setCell (Fr.setCell (Fr.setCell (Fr.setCell (Fr.setCell (Fr.setCell k0 (p := ⟨B, 0, none⟩) (fun h => absurd h (unhide HBL).1) (.int .i64 0)) (p := ⟨B, 1, none⟩) (fun h => absurd h (unhide HBL).1) (.int .i64 0)) (p := ⟨B, 2, none⟩) (fun h => absurd h (unhide HBL).1) (.string ⟨#[]⟩)) (p := ⟨B, 3, none⟩) (fun h => absurd h (unhide HBL).1) (.int .i64 0)) (p := ⟨B, 4, none⟩) (fun h => absurd h (unhide HBL).1) (.int .i64 0)) (p := ⟨B, 5, none⟩) (fun h => absurd h (unhide HBL).1) (.int .i64 0)) (p := ⟨R1, 0, none⟩) (fun h => absurd h (unhide HBL).2) (.int .i64 c)) (p := ⟨R1, 1, none⟩) (fun h => absurd h (unhide HBL).2) (.int .i64 f))
    rw [unhide HRE]
    exact bodyPost_ret (v := .tuple #[.agg #[.int .i64 0, .int .i64 0, .string ⟨#[]⟩, .int .i64 0, .int .i64 0, .int .i64 0], .agg #[.int .i64 c, .int .i64 f]]) (results_bx2 rfl _ rfl rfl e1.drew e2.drew Tryz.underlying47 rfl (tap_size _ rfl) Tryz.underlying37 rfl (fault_size _ _)) rfl ⟨by first | rfl | (rw [unhide HRE]; rfl), e3⟩

def entryZ : En := ⟨0, ⟨#[]⟩, 0, false⟩
/-- A record out of its cells. -/
def entryOf : List Value → En
  | [.int _ run, .string tok, .int _ amount, .bool paid] => ⟨run, tok, amount, paid⟩
  | _ => entryZ

theorem entry_shape (bs : List UInt8) (s : RS) : (rdL bs entryK s).1 = (enC (entryOf (rdL bs entryK s).1)).toList := by
  have h := rdL_has bs entryK s
  generalize (rdL bs entryK s).1 = vs at h ⊢
  match vs, h with
  | [v0, v1, v2, v3], ⟨⟨_, e0⟩, ⟨_, e1⟩, ⟨_, e2⟩, ⟨_, e3⟩, _⟩ =>
    subst e0 e1 e2 e3
    rfl

/-- What reading answers: the record, the fault. -/
def entryRd (bs : List UInt8) : En × Int × Int :=
  if (endR (rdL bs entryK s00).2 bs.length).c ≠ 0 then (entryZ, (endR (rdL bs entryK s00).2 bs.length).c, (endR (rdL bs entryK s00).2 bs.length).f)
  else if entryOk (entryOf (rdL bs entryK s00).1) then (entryOf (rdL bs entryK s00).1, 0, 0) else (entryZ, 80, -1)

def ReadEntry (w : World) (r : En × Int × Int) (e : Ending) (w' : World) : Prop := e = .returned (.tuple #[.agg (enC r.1), .agg #[.int .i64 r.2.1, .int .i64 r.2.2]]) ∧ Fr (fun _ => False) w w'

def accountZ : Ac := ⟨⟨#[]⟩, 0, 0⟩
/-- A record out of its cells. -/
def accountOf : List Value → Ac
  | [.string tok, .int _ charged, .int _ paid] => ⟨tok, charged, paid⟩
  | _ => accountZ

theorem account_shape (bs : List UInt8) (s : RS) : (rdL bs accountK s).1 = (acC (accountOf (rdL bs accountK s).1)).toList := by
  have h := rdL_has bs accountK s
  generalize (rdL bs accountK s).1 = vs at h ⊢
  match vs, h with
  | [v0, v1, v2], ⟨⟨_, e0⟩, ⟨_, e1⟩, ⟨_, e2⟩, _⟩ =>
    subst e0 e1 e2
    rfl

theorem account_size (cs : Array Value) (h : cs.size = 3) : (Tryz.prog.info? 186).map (·.size) = some cs.size := by rw [h]; kernel_rfl

/-- What reading answers: the record, the fault. -/
def accountRd (bs : List UInt8) : Ac × Int × Int :=
  if (endR (rdL bs accountK s00).2 bs.length).c ≠ 0 then (accountZ, (endR (rdL bs accountK s00).2 bs.length).c, (endR (rdL bs accountK s00).2 bs.length).f)
  else if accountOk (accountOf (rdL bs accountK s00).1) then (accountOf (rdL bs accountK s00).1, 0, 0) else (accountZ, 80, -1)

def ReadAccount (w : World) (r : Ac × Int × Int) (e : Ending) (w' : World) : Prop := e = .returned (.tuple #[.agg (acC r.1), .agg #[.int .i64 r.2.1, .int .i64 r.2.2]]) ∧ Fr (fun _ => False) w w'

set_option maxHeartbeats 1000000 in
theorem readTap_any (w : World) (ao : Option Addr) (cap : Nat) (bs : List UInt8) (hB : BIn w ao cap bs) : Calls Tryz.prog 16 #[.slice ao bs.length cap] w (ReadTap w (tapRd bs)) := by
  have R := hide (fun w' (h : Fr (fun _ => False) w w') => takenTap_any w' ao cap bs (hB.keep h))
  obtain ⟨t, Ht⟩ : ∃ t, Hid (tapRd bs = t) := ⟨_, rfl⟩
  rw [unhide Ht] at R ⊢
  unfold ReadTap tpC at *
  obtain ⟨⟨dev, ctr, tok, kind, place, time⟩, c, f⟩ := t
  simp only at R ⊢
  clear hB Ht
  go_enter Tryz.func16, Tryz.ntmps16
  go_wp2_with fail
  have HX : Hid (Fr (fun _ => False) w ((w.alloc (.cells #[.int .i64 0, .int .i64 0, .string ⟨#[]⟩, .int .i64 0, .int .i64 0, .int .i64 0] 47)).alloc (.cells #[.int .i64 0, .int .i64 0] 37)) ∧ Bx ((w.alloc (.cells #[.int .i64 0, .int .i64 0, .string ⟨#[]⟩, .int .i64 0, .int .i64 0, .int .i64 0] 47)).alloc (.cells #[.int .i64 0, .int .i64 0] 37)) w.heap.size #[.int .i64 0, .int .i64 0, .string ⟨#[]⟩, .int .i64 0, .int .i64 0, .int .i64 0] 47 ∧ Bx ((w.alloc (.cells #[.int .i64 0, .int .i64 0, .string ⟨#[]⟩, .int .i64 0, .int .i64 0, .int .i64 0] 47)).alloc (.cells #[.int .i64 0, .int .i64 0] 37)) (w.heap.size + 1) #[.int .i64 0, .int .i64 0] 37) := hide (by
    have h2 := Bx.new (w.alloc (.cells #[.int .i64 0, .int .i64 0, .string ⟨#[]⟩, .int .i64 0, .int .i64 0, .int .i64 0] 47)) #[.int .i64 0, .int .i64 0] 37
    rw [heap_alloc] at h2
    exact ⟨((Fr.refl _ w).alloc _).alloc _, (Bx.new _ _ _).alloc _, h2⟩)
  refine (unhide R _ (unhide HX).1).mono ?_
  rintro e w5 ⟨rfl, hF⟩
  obtain ⟨B, hBe⟩ : ∃ B, w.heap.size = B := ⟨_, rfl⟩
  obtain ⟨R1, hR1⟩ : ∃ x, B + 1 = x := ⟨_, rfl⟩
  have hBR : B ≠ R1 := by omega
  have hRB : R1 ≠ B := by omega
  have HX5 : Hid (Fr (fun _ => False) w w5 ∧ Bx w5 B #[.int .i64 0, .int .i64 0, .string ⟨#[]⟩, .int .i64 0, .int .i64 0, .int .i64 0] 47 ∧ Bx w5 R1 #[.int .i64 0, .int .i64 0] 37) := hide (by
    rw [hBe, hR1] at HX
    exact ⟨(unhide HX).1.trans hF (fun _ _ t => t), (unhide HX).2.1.keep hF, (unhide HX).2.2.keep hF⟩)
  have HBL : Hid (¬ B < w.heap.size ∧ ¬ R1 < w.heap.size) := hide (by omega)
  rw [hBe, hR1]
  clear hF HX hBe hR1 R
  have r0 : w5.cell? ⟨B, 0, none⟩ = some (.int .i64 0) := (unhide HX5).2.1.cell 0
  have s0 : w5.frozen? ⟨B, 0, none⟩ = false := (unhide HX5).2.1.frozen 0
  have r1 : w5.cell? ⟨B, 1, none⟩ = some (.int .i64 0) := (unhide HX5).2.1.cell 1
  have s1 : w5.frozen? ⟨B, 1, none⟩ = false := (unhide HX5).2.1.frozen 1
  have r2 : w5.cell? ⟨B, 2, none⟩ = some (.string ⟨#[]⟩) := (unhide HX5).2.1.cell 2
  have s2 : w5.frozen? ⟨B, 2, none⟩ = false := (unhide HX5).2.1.frozen 2
  have r3 : w5.cell? ⟨B, 3, none⟩ = some (.int .i64 0) := (unhide HX5).2.1.cell 3
  have s3 : w5.frozen? ⟨B, 3, none⟩ = false := (unhide HX5).2.1.frozen 3
  have r4 : w5.cell? ⟨B, 4, none⟩ = some (.int .i64 0) := (unhide HX5).2.1.cell 4
  have s4 : w5.frozen? ⟨B, 4, none⟩ = false := (unhide HX5).2.1.frozen 4
  have r5 : w5.cell? ⟨B, 5, none⟩ = some (.int .i64 0) := (unhide HX5).2.1.cell 5
  have s5 : w5.frozen? ⟨B, 5, none⟩ = false := (unhide HX5).2.1.frozen 5
  have u0 : w5.cell? ⟨R1, 0, none⟩ = some (.int .i64 0) := (unhide HX5).2.2.cell 0
  have v0 : w5.frozen? ⟨R1, 0, none⟩ = false := (unhide HX5).2.2.frozen 0
  have u1 : w5.cell? ⟨R1, 1, none⟩ = some (.int .i64 0) := (unhide HX5).2.2.cell 1
  have v1 : w5.frozen? ⟨R1, 1, none⟩ = false := (unhide HX5).2.2.frozen 1
  go_wp2
  obtain ⟨k0, k1, k2⟩ := unhide HX5
  have e1 := (Bx.setOther (Bx.setOther (Bx.setCell (Bx.setCell (Bx.setCell (Bx.setCell (Bx.setCell (Bx.setCell k1 0 (.int .i64 dev)) 1 (.int .i64 ctr)) 2 (.string tok)) 3 (.int .i64 kind)) 4 (.int .i64 place)) 5 (.int .i64 time)) hBR 0 (.int .i64 c)) hBR 1 (.int .i64 f))
  have e2 := (Bx.setCell (Bx.setCell (Bx.setOther (Bx.setOther (Bx.setOther (Bx.setOther (Bx.setOther (Bx.setOther k2 hRB 0 (.int .i64 dev)) hRB 1 (.int .i64 ctr)) hRB 2 (.string tok)) hRB 3 (.int .i64 kind)) hRB 4 (.int .i64 place)) hRB 5 (.int .i64 time)) 0 (.int .i64 c)) 1 (.int .i64 f))
  have e3 : Fr (fun _ => False) w (((((((((w5.setCell ⟨B, 0, none⟩ (.int .i64 dev)).setCell ⟨B, 1, none⟩ (.int .i64 ctr)).setCell ⟨B, 2, none⟩ (.string tok)).setCell ⟨B, 3, none⟩ (.int .i64 kind)).setCell ⟨B, 4, none⟩ (.int .i64 place)).setCell ⟨B, 5, none⟩ (.int .i64 time)).setCell ⟨R1, 0, none⟩ (.int .i64 c)).setCell ⟨R1, 1, none⟩ (.int .i64 f))) := (Fr.setCell (Fr.setCell (Fr.setCell (Fr.setCell (Fr.setCell (Fr.setCell (Fr.setCell (Fr.setCell k0 (p := ⟨B, 0, none⟩) (fun h => absurd h (unhide HBL).1) (.int .i64 dev)) (p := ⟨B, 1, none⟩) (fun h => absurd h (unhide HBL).1) (.int .i64 ctr)) (p := ⟨B, 2, none⟩) (fun h => absurd h (unhide HBL).1) (.string tok)) (p := ⟨B, 3, none⟩) (fun h => absurd h (unhide HBL).1) (.int .i64 kind)) (p := ⟨B, 4, none⟩) (fun h => absurd h (unhide HBL).1) (.int .i64 place)) (p := ⟨B, 5, none⟩) (fun h => absurd h (unhide HBL).1) (.int .i64 time)) (p := ⟨R1, 0, none⟩) (fun h => absurd h (unhide HBL).2) (.int .i64 c)) (p := ⟨R1, 1, none⟩) (fun h => absurd h (unhide HBL).2) (.int .i64 f))
  exact bodyPost_ret (v := .tuple #[.agg #[.int .i64 dev, .int .i64 ctr, .string tok, .int .i64 kind, .int .i64 place, .int .i64 time], .agg #[.int .i64 c, .int .i64 f]]) (results_bx2 rfl _ rfl rfl e1 e2 Tryz.underlying47 rfl (tap_size _ rfl) Tryz.underlying37 rfl (fault_size _ _)) rfl ⟨rfl, e3⟩

end Go.Proofs.YtkjoojamkbpfcaaGreat
