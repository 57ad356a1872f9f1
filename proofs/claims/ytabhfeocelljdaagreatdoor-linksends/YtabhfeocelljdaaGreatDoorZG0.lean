import Derived.Test.YtabhfeocelljdaaGreatDoorZFA
/- A sender: mathematics. -/
namespace Go.Proofs.YtabhfeocelljdaaGreatDoor
open Go.RowKit

/-- An item: its number, its bytes. -/
structure Itm where
  seq : Int
  bytes : List UInt8

/-- Of what was sent: when an item was. -/
def sAt (l : List (Int × Int)) (q : Int) : Option Int := (l.find? (fun p => p.1 == q)).map (·.2)
/-- Does an item stay noted? -/
def keepS (its : List Itm) (clk evy : Int) (p : Int × Int) : Bool := match its with | [] => false | x :: _ => decide (x.seq ≤ p.1 ∧ clk - p.2 < evy)

/-- A sender. -/
structure Snd where
  win : Int
  bat : Int
  evy : Int
  clk : Int
  sent : List (Int × Int)

def okI (x : Itm) : Bool := decide (1 ≤ x.seq ∧ x.seq ≤ 4294967295) && !longB x.bytes
def nextI (p : Option Int) (x : Itm) : Bool := match p with | none => true | some s => decide (x.seq = s + 1)
/-- Can these be a queue's first items? -/
def isQgo : Option Int → List Itm → Bool
  | _, [] => true
  | p, x :: r => okI x && nextI p x && isQgo (some x.seq) r
def isQ (its : List Itm) : Bool := isQgo none its

def joinsF (bat : Int) (fs : List Fm) (q : Int) : Bool := match fs.getLast? with | none => false | some f => decide ((f.items.length : Int) < bat ∧ f.seq + (f.items.length : Int) = q)
def openF (bat base q : Int) (fs : List Fm) : List Fm := if joinsF bat fs q then fs else fs ++ [⟨1, base, q, [], []⟩]
def addF (b : List UInt8) (fs : List Fm) : List Fm := match fs.getLast? with | none => fs | some f => fs.dropLast ++ [{ f with items := f.items ++ [b] }]
def stepT (s : Snd) (base : Int) (st : List (Int × Int) × List Fm) (x : Itm) : List (Int × Int) × List Fm :=
  if (sAt st.1 x.seq).isSome then st else (st.1 ++ [(x.seq, s.clk)], addF x.bytes (openF s.bat base x.seq st.2))
def baseOf (its : List Itm) : Int := match its with | [] => 0 | x :: _ => x.seq
/-- A tick. -/
def tickF (s : Snd) (its : List Itm) : Snd × List Fm :=
  if isQ its then
    let r := (its.take s.win.toNat).foldl (stepT { s with clk := s.clk + 1 } (baseOf its)) (s.sent.filter (keepS its (s.clk + 1) s.evy), [])
    ({ s with clk := s.clk + 1, sent := r.1 }, r.2)
  else ({ s with clk := s.clk + 1 }, [])

theorem sAt_snoc (l : List (Int × Int)) (q t z : Int) (h : (sAt l q).isSome = false) : sAt (l ++ [(q, t)]) z = if q = z then some t else sAt l z := by
  unfold sAt at *
  rw [List.find?_append]
  by_cases hz : q = z
  · subst hz
    rw [if_pos rfl]
    cases hf : l.find? (fun p => p.1 == q) with
    | none => simp
    | some p => rw [hf] at h; simp at h
  · rw [if_neg hz]
    cases hf : l.find? (fun p => p.1 == z) with
    | none => simp [hz]
    | some p => simp
theorem addF_snoc (b : List UInt8) (fs : List Fm) (f : Fm) : addF b (fs ++ [f]) = fs ++ [{ f with items := f.items ++ [b] }] := by
  unfold addF
  rw [List.getLast?_concat]
  simp

/-- Frames under way. -/
structure FOk (base bat : Int) (n : Nat) (fs : List Fm) : Prop where
  each : ∀ f ∈ fs, f.kind = 1 ∧ f.base = base ∧ f.bytes = [] ∧ (f.items.length : Int) ≤ bat ∧ 1 ≤ f.items.length ∧ ∀ b ∈ f.items, b.length ≤ 256
  few : fs.length ≤ n
theorem FOk.nil (base bat : Int) : FOk base bat 0 [] := ⟨fun f hf => by (cases hf), Nat.le_refl _⟩
theorem FOk.mono {base bat : Int} {n m : Nat} {fs : List Fm} (h : FOk base bat n fs) (hm : n ≤ m) : FOk base bat m fs := ⟨h.each, Nat.le_trans h.few hm⟩
theorem FOk.put {base bat : Int} {n : Nat} {fs : List Fm} (h : FOk base bat n fs) (hb : 1 ≤ bat) (q : Int) (b : List UInt8) (hl : b.length ≤ 256) : FOk base bat (n + 1) (addF b (openF bat base q fs)) := by
  unfold openF
  by_cases hj : joinsF bat fs q = true
  · rw [if_pos hj]
    unfold joinsF at hj
    rcases List.eq_nil_or_concat fs with rfl | ⟨pre, f, rfl⟩
    · simp at hj
    · rw [List.concat_eq_append] at *
      rw [List.getLast?_concat] at hj
      simp only [decide_eq_true_eq] at hj
      rw [addF_snoc]
      refine ⟨fun x hx => ?_, by have := h.few; simp at this ⊢; omega⟩
      rw [List.mem_append, List.mem_singleton] at hx
      rcases hx with hx | rfl
      · exact h.each x (List.mem_append_left _ hx)
      · obtain ⟨a1, a2, a3, a4, a5, a6⟩ := h.each f (by simp)
        refine ⟨a1, a2, a3, ?_, ?_, ?_⟩
        · show ((f.items ++ [b]).length : Int) ≤ bat
          rw [List.length_append, List.length_singleton]; omega
        · show 1 ≤ (f.items ++ [b]).length
          simp
        · intro y hy
          have hy : y ∈ f.items ++ [b] := hy
          rw [List.mem_append, List.mem_singleton] at hy
          rcases hy with hy | rfl
          · exact a6 y hy
          · exact hl
  · rw [if_neg hj, addF_snoc]
    refine ⟨fun x hx => ?_, by have := h.few; simp; omega⟩
    rw [List.mem_append, List.mem_singleton] at hx
    rcases hx with hx | rfl
    · exact h.each x hx
    · exact ⟨rfl, rfl, rfl, by simpa using hb, by simp, fun y hy => by simp at hy; subst hy; exact hl⟩

end Go.Proofs.YtabhfeocelljdaaGreatDoor

