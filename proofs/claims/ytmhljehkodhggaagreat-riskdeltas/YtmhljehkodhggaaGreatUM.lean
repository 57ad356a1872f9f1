import Derived.Test.YtmhljehkodhggaaGreatU8
/- What follows of lists and deltas: a delta leads just there, and back; two deltas do what both together do. No program is named here. -/
namespace Go.Proofs.YtmhljehkodhggaaGreat
open Go.RowKit

theorem Ris.filter {l : List ByteArray} (h : Ris l) (p : ByteArray → Bool) : Ris (l.filter p) := List.Pairwise.filter p h
theorem woL_filter {a b : List ByteArray} (ha : Ris a) (hb : Ris b) : woL a b = a.filter (fun x => !memS b x) := (woL_ris ha hb).ext (ha.filter _) (fun x => by rw [woL_mem ha hb, List.mem_filter, Bool.not_eq_true', memS_not])
theorem woL_le {a b : List ByteArray} (ha : Ris a) (hb : Ris b) : (woL a b).length ≤ a.length := by
  rw [woL_filter ha hb]
  exact List.length_filter_le _ _
theorem nil_of_none {l : List ByteArray} (h : ∀ x, ¬ x ∈ l) : l = [] := by
  cases l with
  | nil => rfl
  | cons x l => exact absurd (List.mem_cons_self ..) (h x)
theorem none_of_nil {l : List ByteArray} (h : l = []) (x : ByteArray) : ¬ x ∈ l := by rw [h]; simp
theorem riseL_ris (ts : List ByteArray) : Ris (riseL ts) := putsL_ris _ _ Ris.nil
theorem riseL_mem (ts : List ByteArray) (x : ByteArray) : x ∈ riseL ts ↔ x ∈ ts := by
  unfold riseL
  rw [putsL_mem]
  simp
theorem riseL_self {l : List ByteArray} (h : Ris l) : riseL l = l := (riseL_ris l).ext h (riseL_mem l)
theorem listOk_ris {l : List ByteArray} (h : listOk l = true) : Ris l := (listOk_iff.1 h).2.2
theorem listOk_tok {l : List ByteArray} (h : listOk l = true) : ∀ x ∈ l, isTok x = true := (listOk_iff.1 h).2.1
theorem all_tok {l : List ByteArray} : l.all isTok = true ↔ ∀ x ∈ l, isTok x = true := List.all_eq_true
theorem woL_ok {a b : List ByteArray} (ha : listOk a = true) (hb : Ris b) : listOk (woL a b) = true := by
  obtain ⟨h1, h2, h3⟩ := listOk_iff.1 ha
  refine listOk_iff.2 ⟨Nat.le_trans (woL_le h3 hb) h1, fun x hx => h2 x ((woL_mem h3 hb x).1 hx).1, woL_ris h3 hb⟩

theorem diffR_ok {l : Rl} {ts : List ByteArray} (h : (diffR l ts).2 = 0) : rightE l = 0 ∧ l.ver ≠ 9223372036854775807 ∧ ts.all isTok = true ∧ (riseL ts).length ≤ 1000 ∧ (diffR l ts).1 = ⟨l.ver + 1, woL (riseL ts) l.toks, woL l.toks (riseL ts)⟩ := by
  unfold diffR at h ⊢
  split at h
  · rename_i h1; exact absurd h h1
  · rename_i h1
    split at h
    · simp at h
    · rename_i h2
      split at h
      · simp at h
      · rename_i h3
        split at h
        · simp at h
        · rename_i h4
          rw [if_neg h1, if_neg h2, if_neg h3, if_neg h4]
          exact ⟨Classical.not_not.1 h1, h2, by simpa using h3, by omega, rfl⟩
theorem diffR_bad {l : Rl} {ts : List ByteArray} (h : (diffR l ts).2 ≠ 0) : (diffR l ts).1 = dl0 := by
  unfold diffR at h ⊢
  split
  · rfl
  · rename_i h1
    rw [if_neg h1] at h
    split
    · rfl
    · rename_i h2
      rw [if_neg h2] at h
      split
      · rfl
      · rename_i h3
        rw [if_neg h3] at h
        split
        · rfl
        · rename_i h4
          rw [if_neg h4] at h
          exact absurd rfl h
theorem diffR_of {l : Rl} {ts : List ByteArray} (h1 : rightE l = 0) (h2 : l.ver ≠ 9223372036854775807) (h3 : ts.all isTok = true) (h4 : (riseL ts).length ≤ 1000) : diffR l ts = (⟨l.ver + 1, woL (riseL ts) l.toks, woL l.toks (riseL ts)⟩, 0) := by
  unfold diffR
  rw [if_neg (by rw [h1]; simp), if_neg h2, if_neg (by rw [h3]; simp), if_neg (by omega)]
theorem applyR_of {l : Rl} {d : Dl} (h1 : rightE l = 0) (h2 : deltaOk d = true) (h3 : d.ver - 1 = l.ver) (h4 : ∀ x, x ∈ d.add → ¬ x ∈ l.toks) (h5 : ∀ x, x ∈ d.gone → x ∈ l.toks) (h6 : (applyT l d).length ≤ 1000) : applyR l d = (⟨d.ver, applyT l d⟩, 0) := by
  have r0 := listOk_ris (rightE_ok h1).1
  obtain ⟨_, k1, k2, _⟩ := deltaOk_iff.1 h2
  have e4 : coL d.add l.toks = [] := nil_of_none (fun x hx => by
    obtain ⟨i, j⟩ := (coL_mem (listOk_ris k1) r0 x).1 hx
    exact h4 x i j)
  have e5 : woL d.gone l.toks = [] := nil_of_none (fun x hx => by
    obtain ⟨i, j⟩ := (woL_mem (listOk_ris k2) r0 x).1 hx
    exact j (h5 x i))
  have e0 : applyE l d = 0 := by
    unfold applyE
    rw [if_neg (by rw [h1]; simp), if_neg (by rw [h2]; simp), if_neg (by rw [h3]; simp), e4, e5]
    simp
  unfold applyR
  rw [if_neg (by rw [e0]; simp), if_neg (by omega)]
theorem applyR_ok {l : Rl} {d : Dl} (h : (applyR l d).2 = 0) : applyE l d = 0 ∧ (applyT l d).length ≤ 1000 ∧ (applyR l d).1 = ⟨d.ver, applyT l d⟩ := by
  unfold applyR at h ⊢
  split at h
  · rename_i h1; exact absurd h h1
  · rename_i h1
    split at h
    · simp at h
    · rename_i h2
      rw [if_neg h1, if_neg h2]
      exact ⟨Classical.not_not.1 h1, by omega, rfl⟩
theorem applyR_bad {l : Rl} {d : Dl} (h : (applyR l d).2 ≠ 0) : (applyR l d).1 = ⟨0, []⟩ := by
  unfold applyR at h ⊢
  split
  · rfl
  · rename_i h1
    rw [if_neg h1] at h
    split
    · rfl
    · rename_i h2
      rw [if_neg h2] at h
      exact absurd rfl h
theorem applyT_mem {l : Rl} {d : Dl} (hl : listOk l.toks = true) (h1 : listOk d.add = true) (h2 : listOk d.gone = true) (x : ByteArray) : x ∈ applyT l d ↔ (x ∈ l.toks ∧ ¬ x ∈ d.gone) ∨ x ∈ d.add := by
  unfold applyT
  rw [eiL_mem (woL_ris (listOk_ris hl) (listOk_ris h2)) (listOk_ris h1), woL_mem (listOk_ris hl) (listOk_ris h2)]
theorem applyT_ris {l : Rl} {d : Dl} (hl : listOk l.toks = true) (h1 : listOk d.add = true) (h2 : listOk d.gone = true) : Ris (applyT l d) := eiL_ris (woL_ris (listOk_ris hl) (listOk_ris h2)) (listOk_ris h1)

/-- A delta leads just there, and back. -/
theorem there {l : Rl} {ts : List ByteArray} (h : (diffR l ts).2 = 0) : applyR l (diffR l ts).1 = (⟨l.ver + 1, riseL ts⟩, 0) ∧ rightE ⟨l.ver + 1, riseL ts⟩ = 0 ∧ 0 ≤ l.ver ∧ (l.ver + 1 ≠ 9223372036854775807 → diffR ⟨l.ver + 1, riseL ts⟩ l.toks = (⟨l.ver + 1 + 1, (diffR l ts).1.gone, (diffR l ts).1.add⟩, 0)) := by
  obtain ⟨h1, h2, h3, h4, hd⟩ := diffR_ok h
  obtain ⟨k1, k2, k3⟩ := rightE_ok h1
  have rl := listOk_ris k1
  have rt := riseL_ris ts
  have ot : listOk (riseL ts) = true := listOk_iff.2 ⟨h4, fun x hx => all_tok.1 h3 x ((riseL_mem ts x).1 hx), rt⟩
  have hT : applyT l ⟨l.ver + 1, woL (riseL ts) l.toks, woL l.toks (riseL ts)⟩ = riseL ts := by
    refine (applyT_ris k1 (woL_ok ot rl) (woL_ok k1 rt)).ext rt (fun x => ?_)
    rw [applyT_mem k1 (woL_ok ot rl) (woL_ok k1 rt)]
    show (x ∈ l.toks ∧ ¬ x ∈ woL l.toks (riseL ts)) ∨ x ∈ woL (riseL ts) l.toks ↔ _
    rw [woL_mem rt rl, woL_mem rl rt]
    by_cases i : x ∈ l.toks <;> by_cases j : x ∈ riseL ts <;> simp [i, j]
  have hok : rightE ⟨l.ver + 1, riseL ts⟩ = 0 := rightE_iff ot (Or.inl (by show 0 < l.ver + 1; omega))
  refine ⟨?_, hok, k2, fun h5 => ?_⟩
  · rw [hd, applyR_of h1 ?_ (by show l.ver + 1 - 1 = l.ver; omega) (fun x hx => ?_) (fun x hx => ?_) (by rw [hT]; exact h4), hT]
    · refine deltaOk_iff.2 ⟨by show 1 ≤ l.ver + 1; omega, woL_ok ot rl, woL_ok k1 rt, fun x hx hy => ?_⟩
      exact ((woL_mem rl rt x).1 hy).2 ((woL_mem rt rl x).1 hx).1
    · exact ((woL_mem rt rl x).1 hx).2
    · exact ((woL_mem rl rt x).1 hx).1
  · have er := riseL_self rl
    rw [diffR_of hok h5 (all_tok.2 (listOk_tok k1)) (by rw [er]; exact listOk_len k1), hd, er]

/-- Which tokens are listed behind a delta. -/
theorem listed {l : Rl} {d : Dl} (h : (applyR l d).2 = 0) (t : ByteArray) : memS (applyR l d).1.toks t = (memS d.add t || (memS l.toks t && !memS d.gone t)) := by
  obtain ⟨h1, h2, h3⟩ := applyR_ok h
  obtain ⟨k1, k2, k3, k4, k5⟩ := applyE_ok h1
  obtain ⟨_, i1, i2, i3⟩ := deltaOk_iff.1 k2
  rw [h3, Bool.eq_iff_iff, memS_mem]
  show t ∈ applyT l d ↔ _
  rw [applyT_mem (rightE_ok k1).1 i1 i2]
  simp only [Bool.or_eq_true, Bool.and_eq_true, Bool.not_eq_true', memS_mem, memS_not]
  exact or_comm

theorem joinR_ok {a b : Dl} (h : (joinR a b).2 = 0) : joinE a b = 0 ∧ (joinA a b).length ≤ 1000 ∧ (joinG a b).length ≤ 1000 ∧ (joinR a b).1 = ⟨b.ver, joinA a b, joinG a b⟩ := by
  unfold joinR at h ⊢
  split at h
  · rename_i h1; exact absurd h h1
  · rename_i h1
    split at h
    · simp at h
    · rename_i h2
      rw [if_neg h1, if_neg h2]
      exact ⟨Classical.not_not.1 h1, by omega, by omega, rfl⟩
theorem joinR_code {a b : Dl} (h : joinE a b = 0) : (joinR a b).2 = 0 ∨ (joinR a b).2 = 2 := by
  unfold joinR
  rw [if_neg (by rw [h]; simp)]
  split
  · exact Or.inr rfl
  · exact Or.inl rfl

/-- Two deltas, one behind the other, do what both together do. -/
theorem joins {l : Rl} {a b : Dl} (h : (applyR l a).2 = 0) (k : (applyR (applyR l a).1 b).2 = 0) :
    ((joinR a b).2 = 0 ∨ (joinR a b).2 = 2) ∧ 0 ≤ l.ver ∧ l.ver + 1 = a.ver ∧ ((joinR a b).2 = 0 → (applyR l ⟨l.ver + 1, (joinR a b).1.add, (joinR a b).1.gone⟩).2 = 0 ∧ (applyR l ⟨l.ver + 1, (joinR a b).1.add, (joinR a b).1.gone⟩).1.toks = (applyR (applyR l a).1 b).1.toks) := by
  obtain ⟨h1, h2, h3⟩ := applyR_ok h
  obtain ⟨i1, i2, i3, i4, i5⟩ := applyE_ok h1
  obtain ⟨d0, d1, d2, d3⟩ := deltaOk_iff.1 i2
  obtain ⟨l1, l2, _⟩ := rightE_ok i1
  obtain ⟨k1, k2, k3⟩ := applyR_ok k
  obtain ⟨j1, j2, j3, j4, j5⟩ := applyE_ok k1
  obtain ⟨e0, e1, e2, e3⟩ := deltaOk_iff.1 j2
  rw [h3] at j1 j3 j4 j5 k2 k3
  simp only at j1 j3 j4 j5
  have m1 : listOk (applyT l a) = true := (rightE_ok j1).1
  have rl := listOk_ris l1; have ra := listOk_ris d1; have rg := listOk_ris d2; have rA := listOk_ris e1; have rG := listOk_ris e2; have rm := listOk_ris m1
  have mm := applyT_mem l1 d1 d2
  -- what is known of the tokens
  have f1 : ∀ x, x ∈ a.add → ¬ x ∈ l.toks := fun x hx hy => none_of_nil i4 x ((coL_mem ra rl x).2 ⟨hx, hy⟩)
  have f2 : ∀ x, x ∈ a.gone → x ∈ l.toks := fun x hx => Classical.not_not.1 (fun hy => none_of_nil i5 x ((woL_mem rg rl x).2 ⟨hx, hy⟩))
  have f3 : ∀ x, x ∈ b.add → ¬ x ∈ applyT l a := fun x hx hy => none_of_nil j4 x ((coL_mem rA rm x).2 ⟨hx, hy⟩)
  have f4 : ∀ x, x ∈ b.gone → x ∈ applyT l a := fun x hx => Classical.not_not.1 (fun hy => none_of_nil j5 x ((woL_mem rG rm x).2 ⟨hx, hy⟩))
  have c1 : coL a.add b.add = [] := nil_of_none (fun x hx => by
    obtain ⟨p, q⟩ := (coL_mem ra rA x).1 hx
    exact f3 x q ((mm x).2 (Or.inr p)))
  have c2 : coL a.gone b.gone = [] := nil_of_none (fun x hx => by
    obtain ⟨p, q⟩ := (coL_mem rg rG x).1 hx
    rcases (mm x).1 (f4 x q) with t | t
    · exact t.2 p
    · exact d3 x t p)
  have hjE : joinE a b = 0 := by
    unfold joinE
    rw [if_neg (by rw [i2]; simp), if_neg (by rw [j2]; simp), if_neg (by rw [j3]; simp), c1, c2]
    simp
  refine ⟨joinR_code hjE, l2, by omega, fun hj => ?_⟩
  obtain ⟨_, q1, q2, q3⟩ := joinR_ok hj
  rw [q3]
  have gA : ∀ x, x ∈ joinA a b ↔ (x ∈ a.add ∧ ¬ x ∈ b.gone) ∨ (x ∈ b.add ∧ ¬ x ∈ a.gone) := fun x => by
    unfold joinA
    rw [eiL_mem (woL_ris ra rG) (woL_ris rA rg), woL_mem ra rG, woL_mem rA rg]
  have gG : ∀ x, x ∈ joinG a b ↔ (x ∈ a.gone ∧ ¬ x ∈ b.add) ∨ (x ∈ b.gone ∧ ¬ x ∈ a.add) := fun x => by
    unfold joinG
    rw [eiL_mem (woL_ris rg rA) (woL_ris rG ra), woL_mem rg rA, woL_mem rG ra]
  have oA : listOk (joinA a b) = true := listOk_iff.2 ⟨q1, fun x hx => ((gA x).1 hx).elim (fun t => listOk_tok d1 x t.1) (fun t => listOk_tok e1 x t.1), eiL_ris (woL_ris ra rG) (woL_ris rA rg)⟩
  have oG : listOk (joinG a b) = true := listOk_iff.2 ⟨q2, fun x hx => ((gG x).1 hx).elim (fun t => listOk_tok d2 x t.1) (fun t => listOk_tok e2 x t.1), eiL_ris (woL_ris rg rA) (woL_ris rG ra)⟩
  have hT : applyT l ⟨l.ver + 1, joinA a b, joinG a b⟩ = applyT ⟨a.ver, applyT l a⟩ b := by
    refine (applyT_ris l1 oA oG).ext (applyT_ris (l := ⟨a.ver, applyT l a⟩) m1 e1 e2) (fun x => ?_)
    rw [applyT_mem l1 oA oG, applyT_mem (l := ⟨a.ver, applyT l a⟩) m1 e1 e2]
    show (x ∈ l.toks ∧ ¬ x ∈ joinG a b) ∨ x ∈ joinA a b ↔ (x ∈ applyT l a ∧ ¬ x ∈ b.gone) ∨ x ∈ b.add
    rw [gA, gG, mm]
    have f1' := f1 x
    have f2' := f2 x
    have f3' := f3 x
    have f4' := f4 x
    have d3' := d3 x
    have e3' := e3 x
    rw [mm] at f3' f4'
    by_cases p1 : x ∈ l.toks <;> by_cases p2 : x ∈ a.add <;> by_cases p3 : x ∈ a.gone <;> by_cases p4 : x ∈ b.add <;> by_cases p5 : x ∈ b.gone <;> simp_all
  have hap := applyR_of (l := l) (d := ⟨l.ver + 1, joinA a b, joinG a b⟩) i1 (deltaOk_iff.2 ⟨by show 1 ≤ l.ver + 1; omega, oA, oG, fun x hx hy => by
      have hx' := (gA x).1 hx
      have hy' := (gG x).1 hy
      rcases hx' with ⟨p, q⟩ | ⟨p, q⟩
      · rcases hy' with ⟨r, s⟩ | ⟨r, s⟩
        · exact d3 x p r
        · exact q r
      · rcases hy' with ⟨r, s⟩ | ⟨r, s⟩
        · exact s p
        · exact e3 x p r⟩) (by show l.ver + 1 - 1 = l.ver; omega) (fun x hx => by
      rcases (gA x).1 hx with ⟨p, q⟩ | ⟨p, q⟩
      · exact f1 x p
      · intro t
        exact f3 x p ((mm x).2 (Or.inl ⟨t, q⟩))) (fun x hx => by
      rcases (gG x).1 hx with ⟨p, q⟩ | ⟨p, q⟩
      · exact f2 x p
      · rcases (mm x).1 (f4 x p) with t | t
        · exact t.1
        · exact absurd t q) (by rw [hT]; exact k2)
  rw [hap, h3, k3]
  exact ⟨rfl, hT⟩

end Go.Proofs.YtmhljehkodhggaaGreat

