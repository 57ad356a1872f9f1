import Derived.Test.YtjkghgcdkfkekaaGreatDoorYM4
/- What acts make of a disk's flags and counts. No program is named here. -/
namespace Go.Proofs.YtjkghgcdkfkekaaGreatDoor

/-- How much was laid down, with what waits. -/
def Dk.pot (d : Dk) : Nat := d.cnt + d.wait.length

theorem Dk.act_pot (d : Dk) (x : Ac) : (d.act x).1.pot ≤ d.pot + 2 := by
  by_cases h : d.armed = true ∧ d.acts = 0
  · cases hd : d.done with
    | true =>
      rw [Dk.act_last1 _ _ h.1 h.2 hd]
      cases x <;> simp [Dk.pot, Dk.carry]
      omega
    | false => rw [Dk.act_last0 _ _ h.1 h.2 hd]; simp [Dk.pot]
  · have e : d.act x = ({ d with acts := if d.armed then d.acts - 1 else d.acts }.carry x, false) := by simp only [Dk.act, if_neg h]
    rw [e]
    cases x <;> simp [Dk.pot, Dk.carry]
    omega

theorem Dk.act_flags (d : Dk) (x : Ac) : (d.act x).1.many = d.many ∧ (d.act x).1.armed = d.armed ∧ (d.act x).1.down = (if (d.act x).2 then true else d.down) ∧ (d.act x).1.acts ≤ d.acts := by
  by_cases h : d.armed = true ∧ d.acts = 0
  · cases hd : d.done with
    | true =>
      rw [Dk.act_last1 _ _ h.1 h.2 hd]
      cases x <;> exact ⟨rfl, rfl, rfl, Nat.le_refl _⟩
    | false => rw [Dk.act_last0 _ _ h.1 h.2 hd]; exact ⟨rfl, rfl, rfl, Nat.le_refl _⟩
  · have e : d.act x = ({ d with acts := if d.armed then d.acts - 1 else d.acts }.carry x, false) := by simp only [Dk.act, if_neg h]
    rw [e]
    cases x <;> refine ⟨rfl, rfl, rfl, ?_⟩ <;> simp only [Dk.carry] <;> split <;> omega

theorem Dk.run_pot (l : List Ac) : ∀ d : Dk, (d.run l).1.pot ≤ d.pot + 2 * l.length := by
  induction l with
  | nil => intro d; exact Nat.le_add_right _ _
  | cons x r ih =>
    intro d
    have h1 := d.act_pot x
    cases h : (d.act x).2 with
    | true => rw [Dk.run_cons_no _ _ _ h]; simp only [List.length_cons]; omega
    | false => rw [Dk.run_cons_ok _ _ _ h]; have := ih (d.act x).1; simp only [List.length_cons]; omega

theorem Dk.run_flags (l : List Ac) : ∀ d : Dk, (d.run l).1.many = d.many ∧ (d.run l).1.armed = d.armed ∧ (d.run l).1.down = (if (d.run l).2 then true else d.down) := by
  induction l with
  | nil => intro d; exact ⟨rfl, rfl, rfl⟩
  | cons x r ih =>
    intro d
    obtain ⟨h1, h2, h3, h4⟩ := d.act_flags x
    cases h : (d.act x).2 with
    | true => rw [Dk.run_cons_no _ _ _ h]; exact ⟨h1, h2, h3⟩
    | false =>
      rw [Dk.run_cons_ok _ _ _ h]
      obtain ⟨k1, k2, k3⟩ := ih (d.act x).1
      rw [h] at h3
      exact ⟨k1.trans h1, k2.trans h2, by rw [k3, h3]; rfl⟩

theorem Dk.act_free2 (d : Dk) (x : Ac) (h : d.armed = false) : (d.act x).2 = false := by rw [Dk.act_free d x h]

theorem Dk.run_free (l : List Ac) : ∀ d : Dk, d.armed = false → (d.run l).2 = false := by
  induction l with
  | nil => intro d _; rfl
  | cons x r ih =>
    intro d h
    have h1 := d.act_free2 x h
    rw [Dk.run_cons_ok _ _ _ h1]
    exact ih _ ((d.act_flags x).2.1.trans h)

theorem anewActs_length (first G : Nat) (rs : List Bs) (a : Nat) (hs : Bs) : (anewActs first G rs a hs).length = nputs rs rs.length + 3 := by
  simp [anewActs, putsTo_length]

theorem nput_hlf (rs : List Bs) (x : Bs) (H : Nat) (h : (strm (rs ++ [x])).length ≤ 504 * H) : nput rs x ≤ H := by
  have := nput_le rs x H h; omega

theorem Dk.crash_pot (d : Dk) (k : List Bool) : (d.crash k).pot = d.pot := by simp [Dk.pot, Dk.crash]

theorem Dk.arm_pot (d : Dk) (n : Int) (b : Bool) : (d.arm n b).pot = d.pot := rfl

/-- Behind a loss of power nothing waits. -/
theorem Dk.crash_look (d : Dk) (k : List Bool) : (d.crash k).look = over d.safe (kept d.wait k) := rfl

end Go.Proofs.YtjkghgcdkfkekaaGreatDoor

