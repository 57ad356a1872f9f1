import Derived.Test.YtlhgfnpialndaaaBX
import Derived.Test.YtlhgfnpialndaaaMX
import Derived.Laws.Rows
import Derived.Laws.Tables
/- Kinds of pieces: how each is read and written; some of them one behind another. A box in memory. No function of the program is named here. -/
namespace Go.Proofs.Ytlhgfnpialndaaa
open Go.RowKit

/-- A kind of piece. -/
inductive Kd where
  | num (size : Nat)
  | int
  | float
  | bool
  | fix (size : Nat)

def Kd.z : Kd → Value
  | .num _ => .int .i64 0
  | .int => .int .i64 0
  | .float => .float .f64 0
  | .bool => .bool false
  | .fix _ => .string ⟨#[]⟩

def Kd.o (bs : List UInt8) (a : Nat) : Kd → Except Int (Value × Nat)
  | .num k => oNumber bs a k
  | .int => oInt bs a
  | .float => oFloat bs a
  | .bool => oBool bs a
  | .fix k => oFixed bs a k

def Kd.w : Kd → Value → Option (List UInt8)
  | .num k, .int .i64 n => wNumber n k
  | .int, .int .i64 n => wInt n
  | .float, .float .f64 b => wFloat b
  | .bool, .bool b => wBool b
  | .fix k, .string s => wFixed s k
  | _, _ => none

/-- How many bytes. -/
def Kd.n : Kd → Nat
  | .num k => k
  | .int => 8
  | .float => 8
  | .bool => 1
  | .fix k => k

/-- A piece is read. -/
def Kd.rd (bs : List UInt8) (k : Kd) (s : RS) : Value × RS := stepR s k.z (k.o bs s.a)

/-- Some pieces are read. -/
def rdL (bs : List UInt8) : List Kd → RS → List Value × RS
  | [], s => ([], s)
  | k :: ks, s => ((k.rd bs s).1 :: (rdL bs ks (k.rd bs s).2).1, (rdL bs ks (k.rd bs s).2).2)

/-- The bytes of some pieces. -/
def wrL : List Kd → List Value → Option (List UInt8)
  | k :: ks, v :: vs => stepW (k.w v) (wrL ks vs)
  | _, _ => some []

theorem rdL_append (bs : List UInt8) (ks js : List Kd) (s : RS) : rdL bs (ks ++ js) s = ((rdL bs ks s).1 ++ (rdL bs js (rdL bs ks s).2).1, (rdL bs js (rdL bs ks s).2).2) := by
  induction ks generalizing s with
  | nil => rfl
  | cons k ks ih => simp [rdL, ih]

theorem rdL_length (bs : List UInt8) (ks : List Kd) (s : RS) : (rdL bs ks s).1.length = ks.length := by
  induction ks generalizing s with
  | nil => rfl
  | cons k ks ih => simp [rdL, ih]

theorem stepW_some (o : Option (List UInt8)) : stepW (some []) o = o := by cases o <;> simp [stepW]

theorem wrL_append (ks js : List Kd) (vs us : List Value) (h : vs.length = ks.length) : wrL (ks ++ js) (vs ++ us) = stepW (wrL ks vs) (wrL js us) := by
  induction ks generalizing vs with
  | nil => cases vs with
    | nil => simp [wrL, stepW_some]
    | cons v vs => simp at h
  | cons k ks ih => cases vs with
    | nil => simp at h
    | cons v vs =>
      simp only [List.cons_append, wrL]
      rw [ih vs (by simpa using h), stepW_assoc]

theorem stepR_val {A : Type} (f : A → Value) (a0 : A) (s : RS) (o : Except Int (Value × Nat)) (h : ∀ v a', o = .ok (v, a') → ∃ n, v = f n) : ∃ r, (stepR s (f a0) o).1 = f r := by
  unfold stepR
  split
  · cases o with
    | ok va => obtain ⟨v, a'⟩ := va; obtain ⟨n, rfl⟩ := h v a' rfl; exact ⟨n, rfl⟩
    | error x => exact ⟨a0, rfl⟩
  · exact ⟨a0, rfl⟩

theorem rd_num (bs : List UInt8) (k : Kd) (s : RS) (hk : (∃ n, k = .num n) ∨ k = .int) : ∃ n, (k.rd bs s).1 = .int .i64 n := by
  rcases hk with ⟨m, rfl⟩ | rfl
  · refine stepR_val (Value.int .i64) 0 s _ (fun v a' h => ?_)
    obtain ⟨n, rfl, _⟩ := form_number h
    exact ⟨n, rfl⟩
  · refine stepR_val (Value.int .i64) 0 s _ (fun v a' h => ?_)
    obtain ⟨n, rfl, _⟩ := form_int h
    exact ⟨n, rfl⟩
theorem rd_fix (bs : List UInt8) (k : Nat) (s : RS) : ∃ n, ((Kd.fix k).rd bs s).1 = .string n := by
  refine stepR_val Value.string ⟨#[]⟩ s _ (fun v a' h => ?_)
  simp only [Kd.o, oFixed] at h
  split at h
  · cases h
  split at h
  · cases h
  · injection h with h; injection h with h1 h2; exact ⟨_, h1.symm⟩
theorem rd_bool (bs : List UInt8) (s : RS) : ∃ n, (Kd.bool.rd bs s).1 = .bool n := by
  refine stepR_val Value.bool false s _ (fun v a' h => ?_)
  simp only [Kd.o, oBool] at h
  split at h
  · cases h
  split at h
  · cases h
  · injection h with h; injection h with h1 h2; exact ⟨_, h1.symm⟩
theorem rd_float (bs : List UInt8) (s : RS) : ∃ n, (Kd.float.rd bs s).1 = .float .f64 n := by
  refine stepR_val (Value.float .f64) 0 s _ (fun v a' h => ?_)
  simp only [Kd.o, oFloat] at h
  split at h
  · cases h
  split at h
  · cases h
  · injection h with h; injection h with h1 h2; exact ⟨_, h1.symm⟩

/-- A writer has at most so many bytes. -/
def Most (s : Option (List UInt8)) (L : Nat) : Prop := ∀ bs, s = some bs → bs.length ≤ L

theorem Most.mono {s : Option (List UInt8)} {L M : Nat} (h : Most s L) (hl : L ≤ M) : Most s M := fun bs e => Nat.le_trans (h bs e) hl

theorem Kd.w_length {k : Kd} {v : Value} {ms : List UInt8} (h : k.w v = some ms) : ms.length = k.n := by
  unfold Kd.w at h
  split at h
  · unfold wNumber at h
    split at h
    · injection h with h; subst h; rw [digs_length]; simp [Kd.n]
    · cases h
  · injection h with h; subst h; rw [digs_length]; rfl
  · injection h with h; subst h; rw [digs_length]; rfl
  · injection h with h; subst h; rw [digs_length]; rfl
  · unfold wFixed at h
    split at h
    · rename_i hc
      injection h with h; subst h; rw [bytes_size]; simp only [Kd.n]; omega
    · cases h
  · cases h

theorem Most.step {s o : Option (List UInt8)} {L M : Nat} (h : Most s L) (ho : Most o M) : Most (stepW s o) (L + M) := by
  intro bs e
  cases s with
  | none => rw [stepW_none] at e; cases e
  | some a =>
    cases o with
    | none => cases e
    | some b =>
      simp only [stepW] at e
      injection e with e
      subst e
      rw [List.length_append]
      have := h a rfl
      have := ho b rfl
      omega

theorem Most.kd (k : Kd) (v : Value) : Most (k.w v) k.n := fun _ e => Nat.le_of_eq (Kd.w_length e)
theorem Most.nil : Most (some []) 0 := fun bs e => by injection e with e; subst e; simp

/-- How many bytes some pieces take. -/
def wide (ks : List Kd) : Nat := ks.foldr (fun k n => k.n + n) 0

theorem Most.wr (ks : List Kd) (vs : List Value) : Most (wrL ks vs) (wide ks) := by
  induction ks generalizing vs with
  | nil => exact Most.nil
  | cons k ks ih => cases vs with
    | nil => exact Most.nil.mono (Nat.zero_le _)
    | cons v vs => exact (Most.kd k v).step (ih vs)

end Go.Proofs.Ytlhgfnpialndaaa

