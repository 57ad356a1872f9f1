import Derived.Test.YtjkghgcdkfkekaaGreatDoorYM0
/- A disk, as plain data: what is safe, what waits, the switch; what acts make of it. No program is named here. -/
namespace Go.Proofs.YtjkghgcdkfkekaaGreatDoor

/-- A disk. (cnt: how often something was laid down, as a bound.) -/
structure Dk where
  many : Nat
  safe : Nat → Bs
  wait : List (Nat × Bs)
  armed : Bool
  acts : Nat
  done : Bool
  down : Bool
  cnt : Nat

/-- Sectors with writes laid over them. -/
def over (f : Nat → Bs) (l : List (Nat × Bs)) : Nat → Bs := l.foldl (fun f p a => if a = p.1 then p.2 else f a) f

theorem over_nil (f : Nat → Bs) : over f [] = f := rfl
theorem over_append (f : Nat → Bs) (l m : List (Nat × Bs)) : over f (l ++ m) = over (over f l) m := List.foldl_append
theorem over_one (f : Nat → Bs) (p : Nat × Bs) (a : Nat) : over f [p] a = if a = p.1 then p.2 else f a := rfl
theorem over_snoc (f : Nat → Bs) (l : List (Nat × Bs)) (p : Nat × Bs) (a : Nat) : over f (l ++ [p]) a = if a = p.1 then p.2 else over f l a := by rw [over_append]; rfl

/-- What is read. -/
def Dk.look (d : Dk) : Nat → Bs := over d.safe d.wait

/-- An act: a write, or a sync. -/
inductive Ac where
  | wr (at' : Nat) (b : Bs)
  | sy

def Dk.carry (d : Dk) : Ac → Dk
  | .wr a b => { d with wait := d.wait ++ [(a, b)], cnt := d.cnt + 1 }
  | .sy => { d with safe := over d.safe d.wait, wait := [], cnt := d.cnt + d.wait.length }

/-- The act, on a disk that is not down; true: it is refused. -/
def Dk.act (d : Dk) (x : Ac) : Dk × Bool :=
  if d.armed = true ∧ d.acts = 0 then ({ (if d.done then d.carry x else d) with down := true }, true)
  else ({ d with acts := if d.armed then d.acts - 1 else d.acts }.carry x, false)

theorem Dk.act_free (d : Dk) (x : Ac) (h : d.armed = false) : d.act x = (d.carry x, false) := by
  rcases d with ⟨many, safe, wait, armed, acts, done, down, cnt⟩
  subst h
  simp [Dk.act]
theorem Dk.act_last0 (d : Dk) (x : Ac) (h : d.armed = true) (h0 : d.acts = 0) (hd : d.done = false) : d.act x = ({ d with down := true }, true) := by
  rcases d with ⟨many, safe, wait, armed, acts, done, down, cnt⟩
  subst h h0 hd
  simp [Dk.act]
theorem Dk.act_last1 (d : Dk) (x : Ac) (h : d.armed = true) (h0 : d.acts = 0) (hd : d.done = true) : d.act x = ({ d.carry x with down := true }, true) := by
  rcases d with ⟨many, safe, wait, armed, acts, done, down, cnt⟩
  subst h h0 hd
  simp [Dk.act]
theorem Dk.act_more (d : Dk) (x : Ac) (h : d.armed = true) (h0 : d.acts ≠ 0) : d.act x = ({ d with acts := d.acts - 1 }.carry x, false) := by
  rcases d with ⟨many, safe, wait, armed, acts, done, down, cnt⟩
  subst h
  simp at h0
  simp [Dk.act, h0]

/-- Acts, up to the first that is refused. -/
def Dk.run (d : Dk) : List Ac → Dk × Bool
  | [] => (d, false)
  | x :: r => if (d.act x).2 then d.act x else (d.act x).1.run r

theorem Dk.run_cons_no (d : Dk) (x : Ac) (r : List Ac) (h : (d.act x).2 = true) : d.run (x :: r) = d.act x := by rw [Dk.run, if_pos h]
theorem Dk.run_cons_ok (d : Dk) (x : Ac) (r : List Ac) (h : (d.act x).2 = false) : d.run (x :: r) = (d.act x).1.run r := by rw [Dk.run, if_neg (by rw [h]; simp)]

theorem Dk.run_append_no (d : Dk) (l m : List Ac) (h : (d.run l).2 = true) : d.run (l ++ m) = d.run l := by
  induction l generalizing d with
  | nil => cases h
  | cons x r ih =>
    cases hx : (d.act x).2 with
    | true => rw [List.cons_append, d.run_cons_no x _ hx, d.run_cons_no x _ hx]
    | false =>
      rw [d.run_cons_ok x _ hx] at h
      rw [List.cons_append, d.run_cons_ok x _ hx, d.run_cons_ok x _ hx, ih _ h]

theorem Dk.run_append_ok (d : Dk) (l m : List Ac) (h : (d.run l).2 = false) : d.run (l ++ m) = (d.run l).1.run m := by
  induction l generalizing d with
  | nil => rfl
  | cons x r ih =>
    cases hx : (d.act x).2 with
    | true => rw [d.run_cons_no x _ hx, hx] at h; cases h
    | false =>
      rw [d.run_cons_ok x _ hx] at h
      rw [List.cons_append, d.run_cons_ok x _ hx, d.run_cons_ok x _ hx, ih _ h]

theorem Dk.run_one (d : Dk) (x : Ac) : d.run [x] = d.act x := by
  cases hx : (d.act x).2 with
  | true => rw [d.run_cons_no x _ hx]
  | false => rw [d.run_cons_ok x _ hx, Dk.run, ← hx]

/-- Arm. -/
def Dk.arm (d : Dk) (n : Int) (done : Bool) : Dk := { d with armed := true, acts := n.toNat, done := done }

/-- Of the writes that wait those that are kept. -/
def kept : List (Nat × Bs) → List Bool → List (Nat × Bs)
  | [], _ => []
  | _ :: _, [] => []
  | p :: r, k :: ks => if k then p :: kept r ks else kept r ks

theorem kept_sub : ∀ (l : List (Nat × Bs)) (k : List Bool), (kept l k).Sublist l
  | [], _ => List.Sublist.refl _
  | _ :: _, [] => List.nil_sublist _
  | p :: r, true :: ks => by simp [kept]; exact kept_sub r ks
  | p :: r, false :: ks => by simp [kept]; exact (kept_sub r ks).cons _

/-- A loss of power. -/
def Dk.crash (d : Dk) (k : List Bool) : Dk := { d with safe := over d.safe (kept d.wait k), wait := [], armed := false, down := false, cnt := d.cnt + d.wait.length }

/-- A new one. -/
def Dk.new (n : Nat) : Dk := ⟨n, fun _ => zeros 512, [], false, 0, false, false, 0⟩

/-- Each sector has its length. -/
def Dk.ok (d : Dk) : Prop := (∀ a, (d.safe a).length = 512) ∧ ∀ p ∈ d.wait, p.2.length = 512

theorem over_len {f : Nat → Bs} : ∀ {l : List (Nat × Bs)}, (∀ a, (f a).length = 512) → (∀ p ∈ l, p.2.length = 512) → ∀ a, (over f l a).length = 512 := by
  intro l
  induction l generalizing f with
  | nil => intro h _ a; exact h a
  | cons p r ih =>
    intro h hp a
    refine ih (f := fun a => if a = p.1 then p.2 else f a) (fun b => ?_) (fun q hq => hp q (by simp [hq])) a
    show (if b = p.1 then p.2 else f b).length = 512
    split
    · exact hp p (by simp)
    · exact h b

theorem Dk.ok.look {d : Dk} (h : d.ok) (a : Nat) : (d.look a).length = 512 := over_len h.1 h.2 a

end Go.Proofs.YtjkghgcdkfkekaaGreatDoor

