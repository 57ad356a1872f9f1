import Derived.Test.YtjkghgcdkfkekaaGreatDoorYM1
/- What putting a record writes. No program is named here. -/
namespace Go.Proofs.YtjkghgcdkfkekaaGreatDoor

/-- The sector in which the next frame begins. -/
def q0 (rs : List Bs) : Nat := bgn (strm rs).length / 504
/-- What stands ahead of the next frame in its sector. -/
def aheadOf (rs : List Bs) : Bs := (strm rs).drop (504 * q0 rs)
/-- What is written with a record, from its sector's first byte on. -/
def somE (rs : List Bs) (x : Bs) : Bs := aheadOf rs ++ (fh x rs.length ++ x)

theorem bgn_gap (p : Nat) (h : bgn p ≠ p) : bgn p % 504 = 0 := by
  by_cases hc : 504 - p % 504 < 12
  · rw [bgn, if_pos hc]; omega
  · exact absurd (by rw [bgn, if_neg hc]) h

theorem q0_le (rs : List Bs) : 504 * q0 rs ≤ bgn (strm rs).length := by unfold q0; omega

theorem aheadOf_length (rs : List Bs) : (aheadOf rs).length = bgn (strm rs).length % 504 := by
  rw [aheadOf, List.length_drop]
  unfold q0 bgn
  split <;> omega

theorem somE_length (rs : List Bs) (x : Bs) : (somE rs x).length = bgn (strm rs).length % 504 + 12 + x.length := by
  simp [somE, aheadOf_length, fh_length]; omega

theorem somE_eq (rs : List Bs) (x : Bs) : somE rs x = (strm (rs ++ [x])).drop (504 * q0 rs) := by
  rw [strm_snoc, addR, somE]
  have hb := bgn_le (strm rs).length
  have hq := q0_le rs
  have hl : (strm rs ++ zeros (bgn (strm rs).length - (strm rs).length)).length = bgn (strm rs).length := by rw [List.length_append, zeros_length]; omega
  rw [List.drop_append_of_le_length (by omega)]
  congr 1
  by_cases hgap : bgn (strm rs).length = (strm rs).length
  · rw [hgap, Nat.sub_self]; simp [zeros, aheadOf]
  · have h0 := bgn_gap _ hgap
    have e : 504 * q0 rs = bgn (strm rs).length := by unfold q0; omega
    rw [aheadOf, e, List.drop_of_length_le (by omega), List.drop_of_length_le (by omega)]

theorem strm_len_put (rs : List Bs) (x : Bs) : (strm (rs ++ [x])).length = 504 * q0 rs + (somE rs x).length := by
  rw [strm_snoc, addR_length, somE_length]
  unfold q0; omega

def nput (rs : List Bs) (x : Bs) : Nat := ((somE rs x).length + 503) / 504

theorem nput_pos (rs : List Bs) (x : Bs) : 1 ≤ nput rs x := by
  have := somE_length rs x
  unfold nput; omega

theorem nput_le (rs : List Bs) (x : Bs) (H : Nat) (h : (strm (rs ++ [x])).length ≤ 504 * H) : q0 rs + nput rs x ≤ H := by
  have := strm_len_put rs x
  unfold nput; omega

/-- The writes of a record. -/
def putW (first G : Nat) (rs : List Bs) (x : Bs) (i : Nat) : Nat × Bs := (first + q0 rs + i, img G (strm (rs ++ [x])) (q0 rs + i))
def putActs (first G : Nat) (rs : List Bs) (x : Bs) : List Ac := (List.range (nput rs x)).map fun i => .wr (putW first G rs x i).1 (putW first G rs x i).2

theorem putActs_length (first G : Nat) (rs : List Bs) (x : Bs) : (putActs first G rs x).length = nput rs x := by simp [putActs]
theorem putActs_take (first G : Nat) (rs : List Bs) (x : Bs) (i : Nat) (h : i < nput rs x) : (putActs first G rs x).take (i + 1) = (putActs first G rs x).take i ++ [.wr (first + q0 rs + i) (img G (strm (rs ++ [x])) (q0 rs + i))] := by
  rw [List.take_succ_eq_append_getElem (by rw [putActs_length]; exact h)]
  simp [putActs, putW]

theorem img_part (G : Nat) (rs : List Bs) (x : Bs) (i : Nat) : img G (strm (rs ++ [x])) (q0 rs + i) = digs G 8 ++ pad (((somE rs x).drop (504 * i)).take 504) := by
  rw [img, somE_eq, List.drop_drop]
  congr 4; omega

theorem ahead_next (rs : List Bs) (x : Bs) : (somE rs x).drop (min ((bgn (strm (rs ++ [x])).length / 504 - q0 rs) * 504) (somE rs x).length) = aheadOf (rs ++ [x]) := by
  have hl := strm_len_put rs x
  have hb := bgn_le (strm (rs ++ [x])).length
  have hq : q0 rs ≤ bgn (strm (rs ++ [x])).length / 504 := by omega
  rw [aheadOf, show q0 (rs ++ [x]) = bgn (strm (rs ++ [x])).length / 504 from rfl]
  generalize bgn (strm (rs ++ [x])).length / 504 = N at *
  have hs := somE_eq rs x
  by_cases h : (N - q0 rs) * 504 ≤ (somE rs x).length
  · rw [Nat.min_eq_left h, hs, List.drop_drop]
    congr 1; omega
  · rw [Nat.min_eq_right (by omega), List.drop_of_length_le (Nat.le_refl _), List.drop_of_length_le (by omega)]

theorem Dk.act_facts (d : Dk) (a : Nat) (b : Bs) (h : (d.act (.wr a b)).2 = false) : (d.act (.wr a b)).1.down = d.down ∧ (d.act (.wr a b)).1.many = d.many ∧ (d.act (.wr a b)).1.cnt = d.cnt + 1 := by
  unfold Dk.act at *
  split at h
  · cases h
  · rename_i hc
    rw [if_neg hc]
    exact ⟨rfl, rfl, rfl⟩

theorem Dk.run_facts (d : Dk) (l : List Ac) (hl : ∀ x ∈ l, ∃ a b, x = .wr a b) (h : (d.run l).2 = false) : (d.run l).1.down = d.down ∧ (d.run l).1.many = d.many ∧ (d.run l).1.cnt = d.cnt + l.length := by
  induction l generalizing d with
  | nil => exact ⟨rfl, rfl, rfl⟩
  | cons x r ih =>
    obtain ⟨a, b, rfl⟩ := hl x (by simp)
    cases hx : (d.act (.wr a b)).2 with
    | true => rw [d.run_cons_no _ _ hx, hx] at h; cases h
    | false =>
      rw [d.run_cons_ok _ _ hx] at h ⊢
      obtain ⟨f1, f2, f3⟩ := ih (d.act (.wr a b)).1 (fun y hy => hl y (by simp [hy])) h
      obtain ⟨g1, g2, g3⟩ := d.act_facts a b hx
      exact ⟨f1.trans g1, f2.trans g2, by rw [f3, g3, List.length_cons]; omega⟩

theorem putActs_wr (first G : Nat) (rs : List Bs) (x : Bs) (i : Nat) : ∀ y ∈ (putActs first G rs x).take i, ∃ a b, y = .wr a b := by
  intro y hy
  have := List.mem_of_mem_take hy
  simp only [putActs, List.mem_map] at this
  obtain ⟨j, _, rfl⟩ := this
  exact ⟨_, _, rfl⟩

theorem Dk.act_wl (d : Dk) (x : Ac) : (d.act x).1.wait.length ≤ d.wait.length + 1 := by
  by_cases h : d.armed = true ∧ d.acts = 0
  · cases hd : d.done with
    | true =>
      rw [Dk.act_last1 _ _ h.1 h.2 hd]
      cases x <;> simp [Dk.carry]
    | false => rw [Dk.act_last0 _ _ h.1 h.2 hd]; simp
  · have e : d.act x = ({ d with acts := if d.armed then d.acts - 1 else d.acts }.carry x, false) := by simp only [Dk.act, if_neg h]
    rw [e]
    cases x <;> simp [Dk.carry]

theorem Dk.run_wl (l : List Ac) : ∀ d : Dk, (d.run l).1.wait.length ≤ d.wait.length + l.length := by
  induction l with
  | nil => intro d; exact Nat.le_add_right _ _
  | cons x r ih =>
    intro d
    have h1 := d.act_wl x
    cases h : (d.act x).2 with
    | true => rw [Dk.run_cons_no _ _ _ h]; simp only [List.length_cons]; omega
    | false => rw [Dk.run_cons_ok _ _ _ h]; have := ih (d.act x).1; simp only [List.length_cons]; omega

/-- One write more of a record. -/
theorem run_put (d : Dk) (first G : Nat) (rs : List Bs) (x : Bs) (i : Nat) (h : i < nput rs x) (hok : (d.run ((putActs first G rs x).take i)).2 = false) :
    d.run ((putActs first G rs x).take (i + 1)) = (d.run ((putActs first G rs x).take i)).1.act (.wr (first + q0 rs + i) (img G (strm (rs ++ [x])) (q0 rs + i))) := by
  rw [putActs_take first G rs x i h, Dk.run_append_ok _ _ _ hok, Dk.run_one]

theorem run_put_no (d : Dk) (first G : Nat) (rs : List Bs) (x : Bs) (i : Nat) (hno : (d.run ((putActs first G rs x).take i)).2 = true) : d.run (putActs first G rs x) = d.run ((putActs first G rs x).take i) := by
  conv => lhs; rw [← List.take_append_drop i (putActs first G rs x)]
  exact Dk.run_append_no _ _ _ hno

theorem part_take (rs : List Bs) (x : Bs) (i : Nat) : ((somE rs x).drop (504 * i)).take (min (504 * (i + 1)) (somE rs x).length - 504 * i) = ((somE rs x).drop (504 * i)).take 504 := by
  rw [List.take_eq_take_iff]
  rw [List.length_drop]; omega

end Go.Proofs.YtjkghgcdkfkekaaGreatDoor

/- What writing records anew does. No program is named here. -/
namespace Go.Proofs.YtjkghgcdkfkekaaGreatDoor

/-- The writes of the first so many records of a row, one record behind another. -/
def putsTo (first G : Nat) (rs : List Bs) : Nat → List Ac
  | 0 => []
  | i + 1 => putsTo first G rs i ++ putActs first G (rs.take i) (rs[i]?.getD [])
/-- How many they are. -/
def nputs (rs : List Bs) : Nat → Nat
  | 0 => 0
  | i + 1 => nputs rs i + nput (rs.take i) (rs[i]?.getD [])

theorem putsTo_length (first G : Nat) (rs : List Bs) (i : Nat) : (putsTo first G rs i).length = nputs rs i := by
  induction i with
  | zero => rfl
  | succ i ih => rw [putsTo, nputs, List.length_append, ih, putActs_length]

theorem putActs_all (first G : Nat) (rs : List Bs) (x : Bs) : ∀ y ∈ putActs first G rs x, ∃ a b, y = .wr a b := by
  have h := putActs_wr first G rs x (putActs first G rs x).length
  rwa [List.take_length] at h

theorem putsTo_wr (first G : Nat) (rs : List Bs) (i : Nat) : ∀ y ∈ putsTo first G rs i, ∃ a b, y = .wr a b := by
  induction i with
  | zero => intro y hy; cases hy
  | succ i ih =>
    intro y hy
    rw [putsTo, List.mem_append] at hy
    rcases hy with hy | hy
    · exact ih y hy
    · exact putActs_all _ _ _ _ y hy

theorem nputs_mono (rs : List Bs) {i j : Nat} (h : i ≤ j) : nputs rs i ≤ nputs rs j := by
  induction j with
  | zero => obtain rfl : i = 0 := by omega
            exact Nat.le_refl _
  | succ j ih =>
    by_cases hj : i = j + 1
    · subst hj; exact Nat.le_refl _
    · exact Nat.le_trans (ih (by omega)) (by rw [nputs]; omega)

/-- A record more. -/
theorem run_puts (d : Dk) (first G : Nat) (rs : List Bs) (i : Nat) (hi : i < rs.length) (hok : (d.run (putsTo first G rs i)).2 = false) :
    d.run (putsTo first G rs (i + 1)) = (d.run (putsTo first G rs i)).1.run (putActs first G (rs.take i) rs[i]) := by
  rw [putsTo, Dk.run_append_ok _ _ _ hok, List.getElem?_eq_getElem hi]
  rfl

theorem putsTo_split (first G : Nat) (rs : List Bs) {i j : Nat} (h : i ≤ j) : ∃ l, putsTo first G rs j = putsTo first G rs i ++ l := by
  induction j with
  | zero => obtain rfl : i = 0 := by omega
            exact ⟨[], by simp⟩
  | succ j ih =>
    by_cases hj : i = j + 1
    · subst hj; exact ⟨[], by simp⟩
    · obtain ⟨l, hl⟩ := ih (by omega)
      exact ⟨l ++ putActs first G (rs.take j) (rs[j]?.getD []), by rw [putsTo, hl, List.append_assoc]⟩

/-- All that Rewrite does on the disk. -/
def anewActs (first G : Nat) (rs : List Bs) (a : Nat) (hs : Bs) : List Ac := putsTo first G rs rs.length ++ [.sy, .wr a hs, .sy]

theorem run_anew_no (d : Dk) (first G : Nat) (rs : List Bs) (a : Nat) (hs : Bs) (i : Nat) (hi : i ≤ rs.length) (hno : (d.run (putsTo first G rs i)).2 = true) : d.run (anewActs first G rs a hs) = d.run (putsTo first G rs i) := by
  obtain ⟨l, hl⟩ := putsTo_split first G rs hi
  rw [anewActs, hl, List.append_assoc]
  exact Dk.run_append_no _ _ _ hno

theorem run_anew_ok (d : Dk) (first G : Nat) (rs : List Bs) (a : Nat) (hs : Bs) (hok : (d.run (putsTo first G rs rs.length)).2 = false) : d.run (anewActs first G rs a hs) = (d.run (putsTo first G rs rs.length)).1.run [.sy, .wr a hs, .sy] := by
  rw [anewActs, Dk.run_append_ok _ _ _ hok]

theorem putsTo_facts (d : Dk) (first G : Nat) (rs : List Bs) (i : Nat) (hok : (d.run (putsTo first G rs i)).2 = false) : (d.run (putsTo first G rs i)).1.down = d.down ∧ (d.run (putsTo first G rs i)).1.many = d.many ∧ (d.run (putsTo first G rs i)).1.cnt = d.cnt + nputs rs i := by
  have h := d.run_facts (putsTo first G rs i) (putsTo_wr first G rs i) hok
  rw [putsTo_length] at h
  exact h

/-- How many writes a row of records takes. -/
theorem nput_bound (rs : List Bs) (x : Bs) : 504 * nput rs x ≤ (strm (rs ++ [x])).length - (strm rs).length + 1007 := by
  have h1 := somE_length rs x
  have h2 := strm_len_put rs x
  have h3 := q0_le rs
  have h4 := bgn_le (strm rs).length
  unfold nput
  unfold q0 at *
  omega

theorem nputs_bound (rs : List Bs) (i : Nat) (hi : i ≤ rs.length) : 504 * nputs rs i ≤ (strm (rs.take i)).length + 1007 * i := by
  induction i with
  | zero => simp [nputs]
  | succ i ih =>
    have h := ih (by omega)
    have hb := nput_bound (rs.take i) rs[i]
    rw [List.take_append_getElem hi] at hb
    have hm := strm_take_len rs (show i ≤ i + 1 from by omega)
    rw [nputs, List.getElem?_eq_getElem (by omega)]
    simp only [Option.getD_some]
    have hle : (strm (rs.take i)).length ≤ (strm (rs.take (i + 1))).length := by
      have := pos_end rs i (by omega)
      have h2 := bgn_le (strm (rs.take i)).length
      omega
    omega

end Go.Proofs.YtjkghgcdkfkekaaGreatDoor

