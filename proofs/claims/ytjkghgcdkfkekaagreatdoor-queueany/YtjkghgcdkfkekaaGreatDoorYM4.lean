import Derived.Test.YtjkghgcdkfkekaaGreatDoorYW9
import Derived.Test.YtjkghgcdkfkekaaGreatDoorMPX
/- The mathematics of power: which heads hold, what a log's half is like while records are put, synced, written anew, whichever writes stay. No function of the program is named here. -/
namespace Go.Proofs.YtjkghgcdkfkekaaGreatDoor

theorem hd_hsec (G h : Nat) (h1 : 1 ≤ G) (h2 : G ≤ 281474976710656) (hh : h ≤ 1) : hd (hsec G h) = some (G, h) := by
  have e : hsec G h = [70, 66, 87, 76] ++ (digs G 8 ++ (digs h 1 ++ (le4 (sumF (hraw G h)) ++ zeros (512 - (frameF (hraw G h)).length)))) := by
    simp [hsec, fillS, frameF, hraw]
  have e1 : ((hsec G h).drop 4).take 8 = digs G 8 := by
    rw [e, List.drop_append_of_le_length (by simp), show List.drop 4 ([70, 66, 87, 76] : Bs) = [] from rfl, List.nil_append, List.take_append_of_le_length (by rw [digs_length]; omega), List.take_of_length_le (by rw [digs_length]; omega)]
  have e2 : ((hsec G h).drop 12).take 1 = digs h 1 := by
    rw [e, ← List.append_assoc, List.drop_append_of_le_length (by simp [digs_length]), List.drop_of_length_le (by simp [digs_length]), List.nil_append, List.take_append_of_le_length (by rw [digs_length]; omega), List.take_of_length_le (by rw [digs_length]; omega)]
  have n1 : num (((hsec G h).drop 4).take 8) = G := by rw [e1]; exact digs_num_lt (by omega)
  have n2 : num (((hsec G h).drop 12).take 1) = h := by rw [e2]; exact digs_num_lt (by omega)
  unfold hd
  rw [n1, n2, if_pos ⟨h1, h2, hh, rfl⟩]

theorem hold_congr {c c' : Nat → Bs} (h0 : c' 0 = c 0) (h1 : c' 1 = c 1) : hold c' = hold c := by simp [hold, holdTo, h0, h1]

theorem hold_bd (c : Nat → Bs) : (hold c).1 ≤ 281474976710656 ∧ (hold c).2.1 ≤ 1 ∧ (hold c).2.2 ≤ 1 := by
  have h := holdTo_bd c 2
  exact ⟨h.1, h.2.1, h.2.2 (by omega)⟩

/-- A head with a greater number that is written beside the one that holds, holds. -/
theorem hold_new {c c' : Nat → Bs} {G h a G' h' : Nat} (hc : hold c = (G, h, a)) (hG : G < G') (hG2 : G' ≤ 281474976710656) (hh : h' ≤ 1) (ha : c' (1 - a) = hsec G' h') (hb : c' a = c a) : hold c' = (G', h', 1 - a) := by
  have hn := hd_hsec G' h' (by omega) hG2 hh
  have e0 : hold c = upH (upH (0, 1, 1) (hd (c 0)) 0) (hd (c 1)) 1 := rfl
  have e1 : hold c' = upH (upH (0, 1, 1) (hd (c' 0)) 0) (hd (c' 1)) 1 := rfl
  have ha1 := (hold_bd c).2.2
  rw [hc] at ha1 e0
  rw [e1]
  have ha1' : a ≤ 1 := ha1
  rcases (by omega : a = 0 ∨ a = 1) with ha0 | ha0
  · subst ha0
    rw [show c' 1 = hsec G' h' from ha, hb, hn]
    cases h0 : hd (c 0) with
    | none => rw [h0] at e0; simp [upH] at e0 ⊢; omega
    | some x =>
      rw [h0] at e0
      have hx := hd_bd h0
      have hs : upH (0, 1, 1) (some x) 0 = (x.1, x.2, 0) := by simp [upH]; omega
      rw [hs] at e0 ⊢
      have hxG : x.1 ≤ G := by
        cases h1 : hd (c 1) with
        | none => rw [h1] at e0; simp [upH] at e0; omega
        | some y =>
          rw [h1] at e0
          simp only [upH] at e0
          split at e0
          · injection e0 with q1 q2; omega
          · injection e0 with q1 q2; omega
      simp [upH]; omega
  · subst ha0
    rw [show c' 0 = hsec G' h' from ha, hb, hn]
    have hs : upH (0, 1, 1) (some (G', h')) 0 = (G', h', 0) := by simp [upH]; omega
    rw [hs]
    cases h1 : hd (c 1) with
    | none => simp [upH]
    | some y =>
      rw [h1] at e0
      have hy := hd_bd h1
      have hyG : y.1 ≤ G := by
        cases h0 : hd (c 0) with
        | none =>
          rw [h0] at e0
          have e2 : (G, h, 1) = if y.1 > 0 then (y.1, y.2, 1) else (0, 1, 1) := e0
          rw [if_pos (by omega)] at e2
          injection e2 with q1 q2; omega
        | some x =>
          rw [h0] at e0
          have hx := hd_bd h0
          have e2 : (G, h, 1) = if y.1 > (upH (0, 1, 1) (some x) 0).1 then (y.1, y.2, 1) else upH (0, 1, 1) (some x) 0 := e0
          rw [show upH (0, 1, 1) (some x) 0 = (x.1, x.2, 0) by simp [upH]; omega] at e2
          by_cases hc : y.1 > (x.1, x.2, 0).1
          · rw [if_pos hc] at e2; injection e2 with q1 q2; omega
          · rw [if_neg hc] at e2; injection e2 with q1 q2; injection q2 with q2 q3; omega
      simp [upH]; omega

section
variable {c : Nat → Bs} {first H G : Nat} {rs : List Bs} {s : Nat}

theorem View.mono {s' : Nat} (V : View c first H G rs s) (h : s' ≤ s) : View c first H G rs s' := ⟨V.each, fun j i hj => V.safe j i (by omega)⟩

theorem Ver.ext {i j : Nat} (x : Bs) (h : Ver c first G rs i j) : Ver c first G (rs ++ [x]) i j := by
  obtain ⟨v, h1, h2, h3, h4⟩ := h
  exact ⟨v, h1, by simp; omega, tch_append [x] h3, by rw [List.take_append_of_le_length h2]; exact h4⟩

theorem View.ext (V : View c first H G rs s) (hs : s ≤ rs.length) (x : Bs) : View c first H G (rs ++ [x]) s :=
  ⟨fun i hi => (V.each i hi).imp id (Ver.ext x), fun j i hj hi ht => (V.safe j i hj hi (tch_of_append (by omega) ht)).ext x⟩

/-- The other contents are the same in this half. -/
theorem View.congr {c' : Nat → Bs} (V : View c first H G rs s) (h : ∀ i, i < H → c' (first + i) = c (first + i)) : View c' first H G rs s :=
  ⟨fun i hi => by rw [h i hi]; exact (V.each i hi).imp id (fun ⟨v, h1, h2, h3, h4⟩ => ⟨v, h1, h2, h3, by rw [h i hi]; exact h4⟩),
   fun j i hj hi ht => by obtain ⟨v, h1, h2, h3, h4⟩ := V.safe j i hj hi ht; exact ⟨v, h1, h2, h3, by rw [h i hi]; exact h4⟩⟩

theorem put_tch (rs : List Bs) (x : Bs) (i : Nat) (hi : i < nput rs x) : tch (rs ++ [x]) rs.length (q0 rs + i) := by
  have h1 := q0_le rs
  have h2 := strm_len_put rs x
  have h3 : 504 * q0 rs + 504 > bgn (strm rs).length := by unfold q0; omega
  have h4 : 504 * i < (somE rs x).length := by unfold nput at hi; omega
  refine ⟨by simp, ?_, ?_⟩
  · have : pos (rs ++ [x]) rs.length = bgn (strm rs).length := by simp [pos]
    rw [this]; omega
  · rw [List.take_of_length_le (by simp)]; omega

theorem tch_put (rs : List Bs) (x : Bs) (j : Nat) (h : tch (rs ++ [x]) rs.length j) : ∃ i, i < nput rs x ∧ j = q0 rs + i := by
  obtain ⟨_, h1, h2⟩ := h
  rw [show pos (rs ++ [x]) rs.length = bgn (strm rs).length by simp [pos]] at h1
  rw [List.take_of_length_le (by simp), strm_len_put] at h2
  have h3 : 504 * q0 rs ≤ bgn (strm rs).length := q0_le rs
  have h4 : bgn (strm rs).length < 504 * q0 rs + 504 := by unfold q0; omega
  have hq : q0 rs ≤ j := by
    have : 504 * q0 rs < 504 * (j + 1) := by omega
    omega
  refine ⟨j - q0 rs, ?_, by omega⟩
  unfold nput; omega

/-- One write of a record. -/
theorem View.put1 {x : Bs} (V : View c first H G (rs ++ [x]) s) (hs : s ≤ rs.length + 1) (i : Nat) (hi : i < nput rs x) : View (over c [putW first G rs x i]) first H G (rs ++ [x]) s := by
  have hv : ∀ j, j ≤ rs.length → Ver (over c [putW first G rs x i]) first G (rs ++ [x]) (q0 rs + i) j := fun j hj => ⟨rs.length + 1, by omega, by simp, by simpa using put_tch rs x i hi, by
    rw [over_one, if_pos (by simp [putW]; omega), List.take_of_length_le (by simp)]; simp [putW]⟩
  have ho : ∀ k, k ≠ q0 rs + i → over c [putW first G rs x i] (first + k) = c (first + k) := fun k hk => by rw [over_one, if_neg (by simp [putW]; omega)]
  refine ⟨fun k hk => ?_, fun j k hj hk ht => ?_⟩
  · by_cases e : k = q0 rs + i
    · subst e; exact .inr (hv 0 (by omega))
    · rw [ho k e]
      exact (V.each k hk).imp id (fun ⟨v, h1, h2, h3, h4⟩ => ⟨v, h1, h2, h3, by rw [ho k e]; exact h4⟩)
  · by_cases e : k = q0 rs + i
    · subst e; exact hv j (by omega)
    · obtain ⟨v, h1, h2, h3, h4⟩ := V.safe j k hj hk ht
      exact ⟨v, h1, h2, h3, by rw [ho k e]; exact h4⟩

end

/-- The writes of a record, as a list. -/
def putWs (first G : Nat) (rs : List Bs) (x : Bs) : List (Nat × Bs) := (List.range (nput rs x)).map (putW first G rs x)

def wrs (ws : List (Nat × Bs)) : List Ac := ws.map fun p => .wr p.1 p.2

theorem putActs_eq (first G : Nat) (rs : List Bs) (x : Bs) : putActs first G rs x = wrs (putWs first G rs x) := by simp [putActs, wrs, putWs, List.map_map, Function.comp_def]

theorem over_cons (f : Nat → Bs) (p : Nat × Bs) (l : List (Nat × Bs)) : over f (p :: l) = over (over f [p]) l := over_append f [p] l

theorem over_away {f : Nat → Bs} {l : List (Nat × Bs)} {a : Nat} (h : ∀ p ∈ l, p.1 ≠ a) : over f l a = f a := by
  induction l generalizing f with
  | nil => rfl
  | cons p r ih =>
    rw [over_cons, ih (fun q hq => h q (by simp [hq])), over_one, if_neg (fun e => h p (by simp) e.symm)]

/-- Some of a record's writes. -/
theorem View.puts {c : Nat → Bs} {first H G : Nat} {rs : List Bs} {s : Nat} {x : Bs} (V : View c first H G (rs ++ [x]) s) (hs : s ≤ rs.length + 1) {sub : List (Nat × Bs)} (hsub : ∀ p ∈ sub, p ∈ putWs first G rs x) : View (over c sub) first H G (rs ++ [x]) s := by
  induction sub generalizing c with
  | nil => exact V
  | cons p r ih =>
    rw [over_cons]
    obtain ⟨i, hi, hp⟩ : ∃ i, i < nput rs x ∧ putW first G rs x i = p := by simpa [putWs] using hsub p (by simp)
    subst hp
    exact ih (V.put1 hs i hi) (fun q hq => hsub q (by simp [hq]))

/-- What stands where several writes were laid: that of one of them. -/
theorem over_at {f : Nat → Bs} {l : List (Nat × Bs)} {a : Nat} {v : Bs} (hm : ∃ p ∈ l, p.1 = a) (hv : ∀ p ∈ l, p.1 = a → p.2 = v) : over f l a = v := by
  induction l generalizing f with
  | nil => obtain ⟨p, hp, _⟩ := hm; cases hp
  | cons p r ih =>
    rw [over_cons]
    by_cases h : ∃ q ∈ r, q.1 = a
    · exact ih h (fun q hq => hv q (by simp [hq]))
    · rw [over_away (fun q hq e => h ⟨q, hq, e⟩)]
      obtain ⟨q, hq, e⟩ := hm
      rcases List.mem_cons.1 hq with rfl | hq
      · rw [over_one, if_pos e.symm]; exact hv q (by simp) e
      · exact absurd ⟨q, hq, e⟩ h

/-- All writes of a record. -/
theorem View.putAll {c : Nat → Bs} {first H G : Nat} {rs : List Bs} {x : Bs} (V : View c first H G rs rs.length) : View (over c (putWs first G rs x)) first H G (rs ++ [x]) (rs.length + 1) := by
  have V1 := (V.ext (Nat.le_refl _) x).puts (sub := putWs first G rs x) (by omega) (fun _ h => h)
  refine ⟨V1.each, fun j i hj hi ht => ?_⟩
  by_cases e : j = rs.length
  · subst e
    obtain ⟨k, hk, rfl⟩ := tch_put rs x i ht
    refine ⟨rs.length + 1, by omega, by simp, by simpa using ht, ?_⟩
    rw [over_at (v := img G (strm (rs ++ [x])) (q0 rs + k))]
    · rw [List.take_of_length_le (by simp)]
    · exact ⟨putW first G rs x k, by simp [putWs]; exact ⟨k, hk, rfl⟩, by simp [putW]; omega⟩
    · intro p hp he
      obtain ⟨m, hm, rfl⟩ : ∃ m, m < nput rs x ∧ putW first G rs x m = p := by simpa [putWs] using hp
      have : m = k := by simp [putW] at he; omega
      subst this; simp [putW]
  · exact V1.safe j i (by omega) hi ht

/-- What writes make of a disk, refused or not. -/
theorem Dk.run_wrs (ws : List (Nat × Bs)) : ∀ d : Dk, ∃ k, k ≤ ws.length ∧ ((d.run (wrs ws)).2 = false → k = ws.length) ∧ (d.run (wrs ws)).1.safe = d.safe ∧ (d.run (wrs ws)).1.wait = d.wait ++ ws.take k ∧ (d.run (wrs ws)).1.many = d.many ∧ (d.run (wrs ws)).1.cnt = d.cnt + k ∧ (d.run (wrs ws)).1.armed = d.armed ∧ ((d.run (wrs ws)).1.down = if (d.run (wrs ws)).2 then true else d.down) := by
  induction ws with
  | nil => intro d; exact ⟨0, Nat.le_refl _, fun _ => rfl, rfl, by simp [wrs, Dk.run], rfl, rfl, rfl, rfl⟩
  | cons p r ih =>
    intro d
    have e : wrs (p :: r) = .wr p.1 p.2 :: wrs r := rfl
    rw [e]
    by_cases h : d.armed = true ∧ d.acts = 0
    · have ea : (d.act (.wr p.1 p.2)).2 = true := by simp [Dk.act, h]
      rw [Dk.run_cons_no _ _ _ ea]
      cases hd : d.done with
      | true => rw [Dk.act_last1 _ _ h.1 h.2 hd]; exact ⟨1, by simp, fun t => (by cases t), rfl, by simp [Dk.carry], rfl, rfl, rfl, rfl⟩
      | false => rw [Dk.act_last0 _ _ h.1 h.2 hd]; exact ⟨0, by simp, fun t => (by cases t), rfl, by simp, rfl, rfl, rfl, rfl⟩
    · have ea : (d.act (.wr p.1 p.2)).2 = false := by simp [Dk.act, h]
      rw [Dk.run_cons_ok _ _ _ ea]
      obtain ⟨k, h1, h2, h3, h4, h5, h6, h7, h8⟩ := ih (d.act (.wr p.1 p.2)).1
      have e1 : (d.act (.wr p.1 p.2)).1 = { d with acts := if d.armed then d.acts - 1 else d.acts }.carry (.wr p.1 p.2) := by simp only [Dk.act, if_neg h]
      refine ⟨k + 1, by simp; omega, fun t => by simp [h2 t], ?_, ?_, ?_, ?_, ?_, ?_⟩
      · rw [h3, e1]; rfl
      · rw [h4, e1]; simp [Dk.carry]
      · rw [h5, e1]; rfl
      · rw [h6, e1]; simp [Dk.carry]; omega
      · rw [h7, e1]; rfl
      · rw [h8, e1]; rfl

/-- What a sync makes of a disk, refused or not. -/
theorem Dk.act_sy (d : Dk) : ((d.act .sy).1.safe = d.look ∧ (d.act .sy).1.wait = [] ∧ (d.act .sy).1.cnt = d.cnt + d.wait.length ∨ (d.act .sy).2 = true ∧ (d.act .sy).1.safe = d.safe ∧ (d.act .sy).1.wait = d.wait ∧ (d.act .sy).1.cnt = d.cnt) ∧ (d.act .sy).1.many = d.many ∧ (d.act .sy).1.armed = d.armed ∧ ((d.act .sy).1.down = if (d.act .sy).2 then true else d.down) := by
  by_cases h : d.armed = true ∧ d.acts = 0
  · cases hd : d.done with
    | true => rw [Dk.act_last1 _ _ h.1 h.2 hd]; exact ⟨.inl ⟨rfl, rfl, rfl⟩, rfl, rfl, rfl⟩
    | false => rw [Dk.act_last0 _ _ h.1 h.2 hd]; exact ⟨.inr ⟨rfl, rfl, rfl, rfl⟩, rfl, rfl, rfl⟩
  · have e : d.act .sy = ({ d with acts := if d.armed then d.acts - 1 else d.acts }.carry .sy, false) := by simp only [Dk.act, if_neg h]
    rw [e]; exact ⟨.inl ⟨rfl, rfl, rfl⟩, rfl, rfl, rfl⟩

theorem sub_append {l m s : List (Nat × Bs)} (h : s.Sublist (l ++ m)) : ∃ s1 s2, s = s1 ++ s2 ∧ s1.Sublist l ∧ s2.Sublist m := by
  obtain ⟨s1, s2, h1, h2, h3⟩ := List.sublist_append_iff.1 h
  exact ⟨s1, s2, h1, h2, h3⟩

/-- Contents with a head that holds and with some records of its half. -/
structure Gd (n : Nat) (c : Nat → Bs) (G h a : Nat) (rs : List Bs) (s : Nat) : Prop where
  hold : hold c = (G, h, a)
  pos : 1 ≤ G
  view : View c (2 + h * hlf n) (hlf n) G rs s

theorem Gd.mono {n : Nat} {c : Nat → Bs} {G h a : Nat} {rs : List Bs} {s s' : Nat} (g : Gd n c G h a rs s) (hs : s' ≤ s) : Gd n c G h a rs s' := ⟨g.hold, g.pos, g.view.mono hs⟩

/-- A sector of a half. -/
def inHalf (n h k : Nat) : Prop := 2 + h * hlf n ≤ k ∧ k < 2 + h * hlf n + hlf n

theorem Gd.congr {n : Nat} {c c' : Nat → Bs} {G h a : Nat} {rs : List Bs} {s : Nat} (g : Gd n c G h a rs s) (h0 : c' 0 = c 0) (h1 : c' 1 = c 1) (hh : ∀ k, inHalf n h k → c' k = c k) : Gd n c' G h a rs s :=
  ⟨(hold_congr h0 h1).trans g.hold, g.pos, g.view.congr (fun i hi => hh _ ⟨by omega, by omega⟩)⟩

/-- A log on a disk: whichever of the writes stay, the first s records are there; all are read. -/
structure Lg (d : Dk) (G h a : Nat) (rs : List Bs) (s : Nat) : Prop where
  each : ∀ sub, List.Sublist sub d.wait → Gd d.many (over d.safe sub) G h a rs s
  now : Gd d.many d.look G h a rs rs.length
  le : s ≤ rs.length
  fit : (strm rs).length ≤ 504 * hlf d.many
  wl : d.wait.length ≤ (strm rs).length

theorem nput_grow (rs : List Bs) (x : Bs) : (strm rs).length + nput rs x ≤ (strm (rs ++ [x])).length := by
  have h1 := strm_len_put rs x
  have h2 : (strm (rs ++ [x])).length = bgn (strm rs).length + 12 + x.length := by rw [strm_snoc, addR_length]
  have h3 : (strm rs).length ≤ bgn (strm rs).length := by unfold bgn; split <;> omega
  have h4 : 504 * q0 rs ≤ bgn (strm rs).length ∧ bgn (strm rs).length < 504 * q0 rs + 504 := by unfold q0; omega
  unfold nput; omega

theorem putWs_length (first G : Nat) (rs : List Bs) (x : Bs) : (putWs first G rs x).length = nput rs x := by simp [putWs]

theorem putWs_half {n h G : Nat} {rs : List Bs} {x : Bs} (hfit : (strm (rs ++ [x])).length ≤ 504 * hlf n) : ∀ p ∈ putWs (2 + h * hlf n) G rs x, inHalf n h p.1 := by
  intro p hp
  obtain ⟨i, hi, rfl⟩ : ∃ i, i < nput rs x ∧ putW (2 + h * hlf n) G rs x i = p := by simpa [putWs] using hp
  have := nput_le rs x (hlf n) hfit
  exact ⟨by simp [putW]; omega, by simp [putW]; omega⟩

/-- A record is put: refused or not. -/
theorem Lg.put {d : Dk} {G h a : Nat} {rs : List Bs} {s : Nat} (L : Lg d G h a rs s) (x : Bs) (hfit : (strm (rs ++ [x])).length ≤ 504 * hlf d.many) :
    (∀ sub, List.Sublist sub (d.run (putActs (2 + h * hlf d.many) G rs x)).1.wait → Gd d.many (over (d.run (putActs (2 + h * hlf d.many) G rs x)).1.safe sub) G h a (rs ++ [x]) s) ∧
    ((d.run (putActs (2 + h * hlf d.many) G rs x)).2 = false → Lg (d.run (putActs (2 + h * hlf d.many) G rs x)).1 G h a (rs ++ [x]) s) := by
  rw [putActs_eq]
  obtain ⟨k, h1, h2, h3, h4, h5, h6, h7, h8⟩ := Dk.run_wrs (putWs (2 + h * hlf d.many) G rs x) d
  generalize d.run (wrs (putWs (2 + h * hlf d.many) G rs x)) = r at *
  have hW := putWs_half (n := d.many) (h := h) (G := G) hfit
  have hout : ∀ (ws : List (Nat × Bs)), (∀ p ∈ ws, p ∈ putWs (2 + h * hlf d.many) G rs x) → ∀ (c : Nat → Bs) (j : Nat), j < 2 → over c ws j = c j := fun ws hws c j hj => over_away (fun p hp e => by have := (hW p (hws p hp)).1; omega)
  have hE : ∀ sub, List.Sublist sub r.1.wait → Gd d.many (over r.1.safe sub) G h a (rs ++ [x]) s := by
    intro sub hsub
    rw [h4] at hsub
    obtain ⟨s1, s2, rfl, q1, q2⟩ := sub_append hsub
    rw [h3, over_append]
    have g := L.each s1 q1
    have hm : ∀ p ∈ s2, p ∈ putWs (2 + h * hlf d.many) G rs x := fun p hp => List.mem_of_mem_take (q2.subset hp)
    exact ⟨(hold_congr (hout s2 hm _ 0 (by omega)) (hout s2 hm _ 1 (by omega))).trans g.hold, g.pos, (g.view.ext L.le x).puts (by have := L.le; omega) hm⟩
  refine ⟨hE, fun hr => ⟨by rw [h5]; exact hE, ?_, by have := L.le; simp; omega, by rw [h5]; exact hfit, ?_⟩⟩
  · have hk := h2 hr
    have el : r.1.look = over d.look (putWs (2 + h * hlf d.many) G rs x) := by rw [Dk.look, h3, h4, hk, List.take_of_length_le (Nat.le_refl _), over_append]; rfl
    rw [h5, el]
    have g := L.now
    exact ⟨(hold_congr (hout _ (fun _ t => t) _ 0 (by omega)) (hout _ (fun _ t => t) _ 1 (by omega))).trans g.hold, g.pos, by have := g.view.putAll (x := x); simpa using this⟩
  · have := L.wl
    have hg := nput_grow rs x
    rw [putWs_length] at h1
    rw [h4, List.length_append, List.length_take]
    omega

/-- A sync: refused or not. -/
theorem Lg.sync {d : Dk} {G h a : Nat} {rs : List Bs} {s : Nat} (L : Lg d G h a rs s) : (∀ sub, List.Sublist sub (d.act .sy).1.wait → Gd d.many (over (d.act .sy).1.safe sub) G h a rs s) ∧ ((d.act .sy).2 = false → Lg (d.act .sy).1 G h a rs rs.length ∧ (d.act .sy).1.wait = []) := by
  obtain ⟨hA, h5, h6, h7⟩ := Dk.act_sy d
  generalize d.act .sy = r at *
  rcases hA with ⟨h1, h2, h3⟩ | ⟨h0, h1, h2, h3⟩
  · have hl : r.1.look = d.look := by rw [Dk.look, h1, h2]; rfl
    refine ⟨fun sub hsub => ?_, fun _ => ⟨⟨fun sub hsub => ?_, ?_, Nat.le_refl _, by rw [h5]; exact L.fit, by rw [h2]; exact Nat.zero_le _⟩, h2⟩⟩
    · rw [h2] at hsub; rw [List.eq_nil_of_sublist_nil hsub, h1]; exact L.now.mono L.le
    · rw [h2] at hsub; rw [List.eq_nil_of_sublist_nil hsub, h1, h5]; exact L.now
    · rw [hl, h5]; exact L.now
  · refine ⟨fun sub hsub => ?_, fun h => by rw [h0] at h; cases h⟩
    rw [h2] at hsub; rw [h1]; exact L.each sub hsub

/-- The writes of a row of records, as a list. -/
def putsWs (first G : Nat) (rs : List Bs) : Nat → List (Nat × Bs)
  | 0 => []
  | i + 1 => putsWs first G rs i ++ putWs first G (rs.take i) (rs[i]?.getD [])

theorem putsTo_eq (first G : Nat) (rs : List Bs) (i : Nat) : putsTo first G rs i = wrs (putsWs first G rs i) := by
  induction i with
  | zero => rfl
  | succ i ih => rw [putsTo, putsWs, ih, putActs_eq]; simp [wrs]

theorem putsWs_half {n h G : Nat} {rs : List Bs} (hfit : (strm rs).length ≤ 504 * hlf n) (i : Nat) (hi : i ≤ rs.length) : ∀ p ∈ putsWs (2 + h * hlf n) G rs i, inHalf n h p.1 := by
  induction i with
  | zero => intro p hp; cases hp
  | succ i ih =>
    intro p hp
    rcases List.mem_append.1 hp with hp | hp
    · exact ih (by omega) p hp
    · refine putWs_half (rs := rs.take i) (x := rs[i]?.getD []) ?_ p hp
      have e : rs.take i ++ [rs[i]?.getD []] = rs.take (i + 1) := by rw [List.take_add_one, List.getElem?_eq_getElem (by omega)]; rfl
      rw [e]
      have := strm_take_len rs hi
      rw [List.take_of_length_le (Nat.le_refl rs.length)] at this
      omega

theorem View.putsAll {c : Nat → Bs} {first H G : Nat} {rs : List Bs} (hc : ∀ i, i < H → mrk (c (first + i)) ≠ G) (i : Nat) (hi : i ≤ rs.length) : View (over c (putsWs first G rs i)) first H G (rs.take i) i := by
  induction i with
  | zero => exact ⟨fun i hi => .inl (hc i hi), fun j i hj => by omega⟩
  | succ i ih =>
    have V := ih (by omega)
    have hlen : (rs.take i).length = i := by rw [List.length_take]; omega
    have V' : View (over c (putsWs first G rs i)) first H G (rs.take i) (rs.take i).length := by rw [hlen]; exact V
    have := V'.putAll (x := rs[i]?.getD [])
    rw [hlen] at this
    have e : rs.take i ++ [rs[i]?.getD []] = rs.take (i + 1) := by rw [List.take_add_one, List.getElem?_eq_getElem (by omega)]; rfl
    rw [e, ← over_append] at this
    exact this

theorem hlf_two (n : Nat) (h4 : 4 ≤ n) : 2 + 2 * hlf n ≤ n ∧ 1 ≤ hlf n := by unfold hlf; omega

/-- Contents are as they were, in the heads and in the half h, with some of the writes that waited. -/
def Old (d : Dk) (h : Nat) (c : Nat → Bs) : Prop := ∃ sub, List.Sublist sub d.wait ∧ ∀ k, k < 2 ∨ inHalf d.many h k → c k = over d.safe sub k

theorem half_apart {n h k : Nat} (hh : h ≤ 1) (h1 : inHalf n h k) (h2 : inHalf n (1 - h) k) : False := by
  rcases (by omega : h = 0 ∨ h = 1) with rfl | rfl
  · have := h1.2; have := h2.1; simp at *; omega
  · have := h1.1; have := h2.2; simp at *; omega

/-- Records are written anew: refused or not. -/
theorem anew_power {d : Dk} {G h a G' : Nat} {rs : List Bs} (hho : hold d.look = (G, h, a)) (hfit : (strm rs).length ≤ 504 * hlf d.many)
    (hG : G < G') (hG2 : G' ≤ 281474976710656) (hun : ∀ i, i < hlf d.many → mrk (d.look (2 + (1 - h) * hlf d.many + i)) ≠ G') :
    (∀ sub, List.Sublist sub (d.run (anewActs (2 + (1 - h) * hlf d.many) G' rs (1 - a) (hsec G' (1 - h)))).1.wait →
      Old d h (over (d.run (anewActs (2 + (1 - h) * hlf d.many) G' rs (1 - a) (hsec G' (1 - h)))).1.safe sub) ∨ Gd d.many (over (d.run (anewActs (2 + (1 - h) * hlf d.many) G' rs (1 - a) (hsec G' (1 - h)))).1.safe sub) G' (1 - h) (1 - a) rs rs.length) ∧
    ((d.run (anewActs (2 + (1 - h) * hlf d.many) G' rs (1 - a) (hsec G' (1 - h)))).2 = false → Lg (d.run (anewActs (2 + (1 - h) * hlf d.many) G' rs (1 - a) (hsec G' (1 - h)))).1 G' (1 - h) (1 - a) rs rs.length ∧ (d.run (anewActs (2 + (1 - h) * hlf d.many) G' rs (1 - a) (hsec G' (1 - h)))).1.wait = []) := by
  have hb := hold_bd d.look
  rw [hho] at hb
  obtain ⟨_, hh, ha⟩ := hb
  have hh : h ≤ 1 := hh
  have ha : a ≤ 1 := ha
  have hW := putsWs_half (n := d.many) (h := 1 - h) (G := G') hfit rs.length (Nat.le_refl _)
  obtain ⟨k, h1, h2, h3, h4, h5, h6, h7, h8⟩ := Dk.run_wrs (putsWs (2 + (1 - h) * hlf d.many) G' rs rs.length) d
  have hpt := putsTo_eq (2 + (1 - h) * hlf d.many) G' rs rs.length
  have hV := View.putsAll (rs := rs) hun rs.length (Nat.le_refl _)
  rw [List.take_of_length_le (Nat.le_refl _)] at hV
  generalize hWS : putsWs (2 + (1 - h) * hlf d.many) G' rs rs.length = WS at *
  have hout : ∀ (ws : List (Nat × Bs)), (∀ p ∈ ws, p ∈ WS) → ∀ (c : Nat → Bs) (j : Nat), j < 2 ∨ inHalf d.many h j → over c ws j = c j := fun ws hws c j hj => over_away (fun p hp e => by
    have hp' := hW p (hws p hp)
    rw [e] at hp'
    rcases hj with hj | hj
    · have := hp'.1; omega
    · exact half_apart hh hj hp')
  rcases Bool.eq_false_or_eq_true (d.run (wrs WS)).2 with hr | hr
  · -- a put was refused
    have e := run_anew_no d (2 + (1 - h) * hlf d.many) G' rs (1 - a) (hsec G' (1 - h)) rs.length (Nat.le_refl _) (by rw [hpt]; exact hr)
    rw [e, hpt]
    refine ⟨fun sub hsub => .inl ?_, fun t => by rw [hr] at t; cases t⟩
    rw [h4] at hsub
    obtain ⟨s1, s2, rfl, q1, q2⟩ := sub_append hsub
    exact ⟨s1, q1, fun j hj => by rw [h3, over_append]; exact hout s2 (fun p hp => List.mem_of_mem_take (q2.subset hp)) _ j hj⟩
  · have e := run_anew_ok d (2 + (1 - h) * hlf d.many) G' rs (1 - a) (hsec G' (1 - h)) (by rw [hpt]; exact hr)
    rw [e, hpt]
    have hk := h2 hr
    rw [hk, List.take_of_length_le (Nat.le_refl _)] at h4
    generalize (d.run (wrs WS)).1 = d1 at *
    have hl1 : d1.look = over d.look WS := by rw [Dk.look, h3, h4, over_append]; rfl
    have hold1 : hold d1.look = (G, h, a) := by rw [hl1]; exact (hold_congr (hout WS (fun _ t => t) _ 0 (.inl (by omega))) (hout WS (fun _ t => t) _ 1 (.inl (by omega)))).trans hho
    have hOldL : Old d h d1.look := ⟨d.wait, List.Sublist.refl _, fun j hj => by rw [hl1]; exact hout WS (fun _ t => t) _ j hj⟩
    -- the first sync
    obtain ⟨hA, g5, g6, g7⟩ := Dk.act_sy d1
    rcases Bool.eq_false_or_eq_true (d1.act .sy).2 with hs | hs
    · rw [Dk.run_cons_no _ _ _ hs]
      refine ⟨fun sub hsub => .inl ?_, fun t => by rw [hs] at t; cases t⟩
      rcases hA with ⟨q1, q2, _⟩ | ⟨_, q1, q2, _⟩
      · rw [q2] at hsub; rw [List.eq_nil_of_sublist_nil hsub, q1]; exact hOldL
      · rw [q2, h4] at hsub
        obtain ⟨s1, s2, rfl, p1, p2⟩ := sub_append hsub
        exact ⟨s1, p1, fun j hj => by rw [q1, h3, over_append]; exact hout s2 (fun p hp => p2.subset hp) _ j hj⟩
    · rw [Dk.run_cons_ok _ _ _ hs]
      obtain ⟨q1, q2⟩ : (d1.act .sy).1.safe = d1.look ∧ (d1.act .sy).1.wait = [] := by
        rcases hA with ⟨q1, q2, _⟩ | ⟨q, _⟩
        · exact ⟨q1, q2⟩
        · rw [hs] at q; cases q
      generalize (d1.act .sy).1 = d2 at *
      -- the head
      have ehd : ∀ c : Nat → Bs, (∀ j, c j = over d2.safe [(1 - a, hsec G' (1 - h))] j) → Gd d.many c G' (1 - h) (1 - a) rs rs.length := by
        intro c hc
        have hc1 : c (1 - a) = hsec G' (1 - h) := by rw [hc, over_one, if_pos rfl]
        have hc2 : ∀ j, j ≠ 1 - a → c j = d1.look j := fun j hj => by rw [hc, over_one, if_neg hj, q1]
        refine ⟨hold_new hold1 hG hG2 (by omega) hc1 (hc2 a (by omega)), by omega, ?_⟩
        refine hV.congr (fun i hi => ?_)
        rw [hc2 _ (by omega), hl1]
      obtain ⟨k2, f1, f2, f3, f4, f5, f6, f7, f8⟩ := Dk.run_wrs [(1 - a, hsec G' (1 - h))] d2
      have er : d2.run [.wr (1 - a) (hsec G' (1 - h)), .sy] = d2.run (wrs [(1 - a, hsec G' (1 - h))] ++ [.sy]) := rfl
      rw [er]
      have hOld2 : Old d h d2.safe := by rw [q1]; exact hOldL
      have hsub1 : ∀ sub, List.Sublist sub (d2.wait ++ [(1 - a, hsec G' (1 - h))].take k2) → Old d h (over d2.safe sub) ∨ Gd d.many (over d2.safe sub) G' (1 - h) (1 - a) rs rs.length := by
        intro sub hsub
        rw [q2, List.nil_append] at hsub
        have hsub := hsub.trans (List.take_sublist _ _)
        rcases List.sublist_cons_iff.1 hsub with t | ⟨r, t, t'⟩
        · rw [List.eq_nil_of_sublist_nil t]; exact .inl hOld2
        · rw [t, List.eq_nil_of_sublist_nil t']; exact .inr (ehd _ (fun _ => rfl))
      rcases Bool.eq_false_or_eq_true (d2.run (wrs [(1 - a, hsec G' (1 - h))])).2 with hr2 | hr2
      · rw [Dk.run_append_no _ _ _ hr2]
        refine ⟨fun sub hsub => ?_, fun t => by rw [hr2] at t; cases t⟩
        rw [f4] at hsub; rw [f3]
        exact hsub1 sub hsub
      · rw [Dk.run_append_ok _ _ _ hr2, Dk.run_one]
        have hk2 := f2 hr2
        generalize (d2.run (wrs [(1 - a, hsec G' (1 - h))])).1 = d3 at *
        have hl3 : ∀ j, d3.look j = over d2.safe [(1 - a, hsec G' (1 - h))] j := fun j => by rw [Dk.look, f3, f4, q2, hk2]; rfl
        have hm3 : d3.many = d.many := by rw [f5, g5, h5]
        obtain ⟨hA3, k5, k6, k7⟩ := Dk.act_sy d3
        rcases hA3 with ⟨t1, t2, _⟩ | ⟨t0, t1, t2, _⟩
        · have hg := ehd (d3.act .sy).1.safe (fun j => by rw [t1]; exact hl3 j)
          refine ⟨fun sub hsub => ?_, fun _ => ⟨⟨fun sub hsub => ?_, ?_, Nat.le_refl _, by rw [k5, hm3]; exact hfit, by rw [t2]; exact Nat.zero_le _⟩, t2⟩⟩
          · rw [t2] at hsub; rw [List.eq_nil_of_sublist_nil hsub]; exact .inr hg
          · rw [t2] at hsub; rw [List.eq_nil_of_sublist_nil hsub, k5, hm3]; exact hg
          · rw [k5, hm3, Dk.look, t2]; exact hg
        · refine ⟨fun sub hsub => ?_, fun t => by rw [t0] at t; cases t⟩
          rw [t2, f4] at hsub; rw [t1, f3]
          exact hsub1 sub hsub

theorem Old.gd {d : Dk} {G h a : Nat} {rs : List Bs} {s : Nat} {c : Nat → Bs} (o : Old d h c) (each : ∀ sub, List.Sublist sub d.wait → Gd d.many (over d.safe sub) G h a rs s) : Gd d.many c G h a rs s := by
  obtain ⟨sub, h1, h2⟩ := o
  exact (each sub h1).congr (h2 0 (.inl (by omega))) (h2 1 (.inl (by omega))) (fun k hk => h2 k (.inr hk))

/-- What is found. -/
theorem Gd.found {n : Nat} {c : Nat → Bs} {G h a : Nat} {rs l : List Bs} {s : Nat} (g : Gd n c G h a rs s) (h512 : ∀ i, (c i).length = 512) (hfit : (strm rs).length ≤ 504 * hlf n) (hs : s ≤ rs.length) (h4 : 4 ≤ n) (hn : n ≤ 1048576) (hG : G < 9223372036854775808)
    (hl : IsFound c (2 + h * hlf n) (hlf n) G l) : ∃ m, s ≤ m ∧ m ≤ rs.length ∧ l = rs.take m := by
  obtain ⟨t, h1, h2, h3, h4⟩ := hl
  have hb := hlf_bd n (by omega) hn
  exact Go.Proofs.YtjkghgcdkfkekaaGreatDoor.found g.view (fun i _ => h512 _) hfit hs (by omega) h1 h2 h3 hG h4

/-- What is found fits. -/
theorem IsFound.fit {c : Nat → Bs} {first H G : Nat} {l : List Bs} (h512 : ∀ i, (c i).length = 512) (h : IsFound c first H G l) : (strm l).length ≤ 504 * H := by
  obtain ⟨t, h1, h2, h3, h4⟩ := h
  rcases Nat.eq_zero_or_pos l.length with e | e
  · rw [List.eq_nil_of_length_eq_zero e]; simp [strm_nil]
  · have hp := h4.all (l.length - 1) (by omega)
    have hp := hp.length_le
    have he := pos_end l (l.length - 1) (by omega)
    rw [frm_length, List.length_drop, prt_length c first t (fun i _ => h512 _)] at hp
    rw [Nat.sub_add_cancel e, List.take_of_length_le (Nat.le_refl _)] at he
    have : 504 * t ≤ 504 * H := Nat.mul_le_mul_left _ h1
    omega

end Go.Proofs.YtjkghgcdkfkekaaGreatDoor

