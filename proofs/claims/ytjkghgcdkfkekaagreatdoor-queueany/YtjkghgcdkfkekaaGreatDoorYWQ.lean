import Derived.Test.YtjkghgcdkfkekaaGreatDoorYWO
/- Rows of records of one's own, whose bytes were handed in; two rows held against each other. -/
namespace Go.Proofs.YtjkghgcdkfkekaaGreatDoor
open Go.RowKit

/-- Values that are rows of bytes. -/
def Els (w0 : World) (vs : List Value) (l : List Bs) : Prop := vs.length = l.length ∧ ∀ i (_ : i < vs.length) (_ : i < l.length), ∃ ao cap, vs[i] = .slice ao l[i].length cap ∧ BAt w0 ao cap l[i]

theorem Els.append {w0 : World} {vs us : List Value} {l m : List Bs} (h : Els w0 vs l) (k : Els w0 us m) : Els w0 (vs ++ us) (l ++ m) := by
  refine ⟨by rw [List.length_append, List.length_append, h.1, k.1], fun i h1 h2 => ?_⟩
  by_cases hi : i < vs.length
  · rw [List.getElem_append_left hi]
    have hl : i < l.length := by rw [← h.1]; exact hi
    rw [List.getElem_append_left hl]
    exact h.2 i hi hl
  · have e1 : (vs ++ us)[i] = us[i - vs.length]'(by rw [List.length_append] at h1; omega) := List.getElem_append_right (by omega)
    have hl : l.length ≤ i := by rw [← h.1]; omega
    have e2 : (l ++ m)[i] = m[i - l.length]'(by rw [List.length_append] at h2; omega) := List.getElem_append_right hl
    have h3 := k.2 (i - vs.length) (by rw [List.length_append] at h1; omega) (by rw [List.length_append] at h2; rw [h.1]; omega)
    obtain ⟨ao, cap, q1, q2⟩ := h3
    refine ⟨ao, cap, ?_, ?_⟩
    · rw [e1, e2, q1]; simp only [h.1]
    · rw [e2]; simp only [h.1] at q2; exact q2

/-- A row of records of one's own, whose bytes were handed in. -/
structure AllAt (w0 w : World) (R : Nat → Nat) (ao : Option Addr) (cap g : Nat) (l : List Bs) : Prop where
  ex : ∃ vs, VRow w ao cap g vs ∧ Els w0 vs l
  own : 0 < cap → w0.heap.size ≤ g ∧ R g = 0

theorem AllAt.nil (w0 w : World) (R : Nat → Nat) (g : Nat) : AllAt w0 w R none 0 g [] := ⟨⟨[], VRow.nil _ _, rfl, fun i h => absurd h (by simp)⟩, fun h => absurd h (by simp)⟩

theorem AllAt.turn {w0 w w' : World} {R R' : Nat → Nat} {ao : Option Addr} {cap g : Nat} {l : List Bs} (h : AllAt w0 w R ao cap g l) (hU : UpR w R R') (hF : Fr (fun k => R k ≠ 0) w w') : AllAt w0 w' R' ao cap g l := by
  obtain ⟨vs, h1, h2⟩ := h.ex
  exact ⟨⟨vs, h1.stay (fun hc => hF.block g (h1.lt hc) (fun t => t (h.own hc).2)), h2⟩, fun hc => ⟨(h.own hc).1, by rw [hU g (h1.lt hc)]; exact (h.own hc).2⟩⟩

theorem AllAt.keep {w0 w w' : World} {R : Nat → Nat} {ao : Option Addr} {cap g : Nat} {l : List Bs} (h : AllAt w0 w R ao cap g l) (hF : Fr (fun _ => False) w w') : AllAt w0 w' R ao cap g l := h.turn (UpR.refl _ _) (hF.mono (fun _ _ t => t.elim))

theorem AllAt.recs {w0 w : World} {R : Nat → Nat} {ao : Option Addr} {cap g : Nat} {l : List Bs} (h : AllAt w0 w R ao cap g l) (c : Ch w0 w (fun _ => 0) R) (hl : l.length ≤ 140737488355328) : RecsP (fun k => R k = 0) w ao cap l := by
  obtain ⟨vs, hv, hlen, he⟩ := h.ex
  have hFc : Fr (fun _ => False) w0 w := c.fr.mono (fun k _ t => t rfl)
  refine ⟨fun h0 => ⟨g, 0, hv.ad (by have := hv.le; omega), (h.own (by have := hv.le; omega)).2, fun i hi => ?_⟩, hl⟩
  obtain ⟨ao', cap', e1, hB⟩ := he i (by omega) hi
  refine ⟨ao', cap', by rw [Nat.zero_add, hv.cells i (by omega), e1], hB.later hFc, fun b' off' h0 ea => ?_⟩
  obtain ⟨b2, off2, e2, hc⟩ := hB.2.1 h0
  rw [e2] at ea
  injection ea with ea
  injection ea with q1 q2
  subst q1
  rw [c.up b2 (World.block_lt_of_cell? _ _ (hc 0 h0))]

/-- Rows that were handed in, as values. -/
theorem RecsP.els {P : Nat → Prop} {w0 : World} {ro : Option Addr} {rc : Nat} {rs : List Bs} (h : RecsP P w0 ro rc rs) : ∃ vs, Els w0 vs rs ∧ (0 < rs.length → ∃ b off, ro = some ⟨b, off, none⟩ ∧ ∀ j u, vs[j]? = some u → w0.cell? ⟨b, off + j, none⟩ = some u) ∧ ∀ u ∈ vs, u.oneCell' = true := by
  rcases Nat.eq_zero_or_pos rs.length with e | e
  · obtain rfl := List.eq_nil_of_length_eq_zero e
    exact ⟨[], ⟨rfl, fun i h => absurd h (by simp)⟩, fun h => absurd h (by simp), fun u hu => by cases hu⟩
  · obtain ⟨b, off, e1, _, hc⟩ := h.cells e
    have hall : ∀ n, n ≤ rs.length → ∃ vs : List Value, vs.length = n ∧ (∀ i (_ : i < vs.length) (_ : i < rs.length), ∃ ao cap, vs[i] = .slice ao rs[i].length cap ∧ BAt w0 ao cap rs[i]) ∧ (∀ j u, vs[j]? = some u → w0.cell? ⟨b, off + j, none⟩ = some u) ∧ ∀ u ∈ vs, u.oneCell' = true := by
      intro n
      induction n with
      | zero => intro _; exact ⟨[], rfl, fun i h => absurd h (by simp), fun j u h => by simp at h, fun u hu => by cases hu⟩
      | succ n ih =>
        intro hn
        obtain ⟨vs, h1, h2, h3, h4⟩ := ih (by omega)
        obtain ⟨ao, cap, c1, c2, _⟩ := hc n (by omega)
        refine ⟨vs ++ [.slice ao rs[n].length cap], by simp [h1], fun i q1 q2 => ?_, fun j u hj => ?_, fun u hu => ?_⟩
        · by_cases hi : i < vs.length
          · rw [List.getElem_append_left hi]; exact h2 i hi q2
          · have : i = n := by simp at q1; omega
            subst this
            exact ⟨ao, cap, by rw [List.getElem_append_right (by omega)]; simp [h1], c2⟩
        · by_cases hi : j < vs.length
          · rw [List.getElem?_append_left hi] at hj; exact h3 j u hj
          · rw [List.getElem?_append_right (by omega)] at hj
            have hlt := (List.getElem?_eq_some_iff.1 hj).1
            have : j = n := by simp at hlt; omega
            subst this
            simp [h1] at hj
            rw [← hj]; exact c1
        · rcases List.mem_append.1 hu with hu | hu
          · exact h4 u hu
          · simp at hu; subst hu; rfl
    obtain ⟨vs, h1, h2, h3, h4⟩ := hall rs.length (Nat.le_refl _)
    exact ⟨vs, ⟨h1, h2⟩, fun _ => ⟨b, off, e1, h3⟩, h4⟩

/-- append to such a row, as one step. -/
theorem wpList_append_all (w0 w : World) (R : Nat → Nat) {ops : Array Oper} {rest : List Oper} {o : Oper} {a : Act} {Q : Exit → Act → World → Prop} (hgd : o.guard = none) (s x : Operand)
    (ho : o.op = .call { callee := .builtin .append, args := #[s, x], argTypes := #[23, 23] }) {ao : Option Addr} {cap g n : Nat} {l : List Bs} (hv : a.eval s = .slice ao n cap) (hA : AllAt w0 w R ao cap g l) (hn : l.length = n) (xv : Value) (news : List Value) (m : Nat) (xs : List Bs) (hx : a.eval x = xv) (hE : Els w0 news xs) (hm : xs.length = m) (hs : Src Tryz.prog 1 23 xv m news w)
    (hz : ∀ k, w.heap.size ≤ k → R k = 0) (hsz : w0.heap.size ≤ w.heap.size) (hfit : (n + m) * 24 ≤ 140737488355328)
    (hK : ∀ ao' cap' w' g', AllAt w0 w' R ao' cap' g' (l ++ xs) → Fr (fun k => k = g ∧ 0 < cap) w w' → (g' = g ∧ cap' = cap ∨ w.heap.size ≤ g') → wpList Tryz.prog ops Q rest (a.put o.dst (.slice ao' (n + m) cap')) w') : wpList Tryz.prog ops Q (o :: rest) a w := by
  obtain ⟨i0, hi, hzz⟩ := Option.map_eq_some_iff.1 infoS
  simp only [Prod.mk.injEq] at hzz
  obtain ⟨hz0, hz1, hz2⟩ := hzz
  obtain ⟨vs, hV, hEl⟩ := hA.ex
  refine wpList_append_vrow w hgd s x 23 23 ho 28 i0 (.slice none 0 0) Tryz.underlying23 hi hz0 rfl hz1 hv hV (by rw [hEl.1]; exact hn) xv news m (by rw [hE.1]; exact hm) hx hs (by rw [hz2]; exact hfit) (by omega) ?_
  intro ao' cap' w' g' hV' hG
  refine hK ao' cap' w' g' ⟨⟨vs ++ news, hV', hEl.append hE⟩, fun hc => ?_⟩ ?_ ?_
  · rcases hG with ⟨e1, e2, _⟩ | ⟨e1, _, _⟩
    · rw [e1]; exact hA.own (by omega)
    · exact ⟨by omega, hz _ e1⟩
  · rcases hG with ⟨_, _, hf⟩ | ⟨_, _, hf⟩
    · exact hf
    · exact hf.mono (fun _ _ t => t.elim)
  · rcases hG with ⟨e1, e2, _⟩ | ⟨e1, _, _⟩
    · exact .inl ⟨e1, e2⟩
    · exact .inr e1

section
variable {w0 w w' : World} {R : Nat → Nat} {hp b p l n : Nat} {rs : List Bs} {s num B C : Nat}

/-- Blocks of one's own turned. -/
theorem PW.own {S : Nat → Prop} (hT : TabAt w0) (P : PW w0 w (fun _ => 0) R hp b p l n rs s num B C) (hF : Fr S w w') (hS : ∀ k, k < w.heap.size → S k → w0.heap.size ≤ k ∧ R k = 0) : PW w0 w' (fun _ => 0) R hp b p l n rs s num B C := by
  obtain ⟨d, G, h, a, h1, h2, h3, L, c⟩ := P
  refine ⟨d, G, h, a, h1, h2, h3, L.own hF (fun k hk t => ⟨(hS k hk t).2, fun e => ?_⟩), ⟨c.up, ?_⟩⟩
  · have := (hS k hk t).1
    have := hT.pos
    omega
  · exact c.fr.trans hF (fun k hk t => by have := (hS k (Nat.lt_of_lt_of_le hk c.fr.size) t).1; omega)

theorem PW.zero (P : PW w0 w (fun _ => 0) R hp b p l n rs s num B C) : ∀ k, w.heap.size ≤ k → R k = 0 := by
  obtain ⟨d, G, h, a, h1, h2, h3, L, c⟩ := P
  exact L.dn.dk.zero

theorem PW.fit (P : PW w0 w (fun _ => 0) R hp b p l n rs s num B C) : (strm rs).length ≤ 504 * hlf n ∧ 12 * rs.length ≤ (strm rs).length := by
  obtain ⟨d, G, h, a, h1, h2, h3, L, c⟩ := P
  have := L.lg.fit
  rw [L.dn.many] at this
  have hc := strm_count rs rs.length (Nat.le_refl _)
  rw [List.take_length] at hc
  exact ⟨this, hc⟩

end

/-- Are two rows of records the same? -/
def sameF (a b : List Bs) : Bool := decide (a = b)

set_option maxHeartbeats 1000000 in
set_option maxRecDepth 20000 in
theorem same_any (w : World) (ao bo : Option Addr) (ac bc : Nat) (la lb : List Bs) {P Q : Nat → Prop} (ha : RecsP P w ao ac la) (hb : RecsP Q w bo bc lb) :
    Calls Tryz.prog 13 #[.slice ao la.length ac, .slice bo lb.length bc] w fun e w' => e = .returned (.bool (sameF la lb)) ∧ Fr (fun _ => False) w w' := by
  have hal := ha.small
  have hbl := hb.small
  by_cases hlen : la.length = lb.length
  · have hlI : ((la.length : Int) != (lb.length : Int)) = false := by simp [hlen]
    have HH := hide (And.intro ha (And.intro hb hlen))
    have hlb : (la.length : Int) ≤ 140737488355328 := by omega
    clear ha hb hlen hal hbl
    go_enter Tryz.func13, Tryz.ntmps13
    go_wp2
    go_loopw [5] (fun iv wr => ∃ i : Nat, i ≤ la.length ∧ iv = .int .i64 i ∧ Hid (la.take i = lb.take i ∧ Fr (fun _ => False) w wr)) (fun iv _ => la.length - (intOf iv).toNat)
    case atStart => exact ⟨0, Nat.zero_le _, rfl, hide ⟨rfl, Fr.refl _ _⟩⟩
    case round =>
      obtain ⟨i, hi, rfl, HR⟩ := hrel
      by_cases hlt : i < la.length
      · obtain ⟨ha, hb, hlen⟩ := unhide HH
        obtain ⟨ht, hF⟩ := unhide HR
        have ha' := ha.frame hF (fun _ _ t => t)
        have hb' := hb.frame hF (fun _ _ t => t)
        obtain ⟨b1, o1, rfl, r1, hc1⟩ := ha'.cells (by omega)
        obtain ⟨b2, o2, rfl, r2, hc2⟩ := hb'.cells (by omega)
        clear r1 r2
        obtain ⟨x1, y1, p1, q1, r1⟩ := hc1 i hlt
        obtain ⟨x2, y2, p2, q2, r2⟩ := hc2 i (by omega)
        clear r1 r2
        have hilt : (i : Int) < (la.length : Int) := by omega
        have hilt2 : (i : Int) < (lb.length : Int) := by omega
        obtain ⟨X1, hX1⟩ : ∃ X, X = la[i] := ⟨_, rfl⟩
        obtain ⟨X2, hX2⟩ : ∃ X, X = lb[i]'(by omega) := ⟨_, rfl⟩
        rw [← hX1] at p1 q1
        rw [← hX2] at p2 q2
        have hX1' : la[i]? = some X1 := by rw [hX1]; exact List.getElem?_eq_getElem hlt
        have hX2' : lb[i]? = some X2 := by rw [hX2]; exact List.getElem?_eq_getElem (by omega)
        clear hX1 hX2
        have HX := hide (And.intro hX1' (And.intro hX2' (And.intro hlt (And.intro ht (And.intro hF hlen)))))
        have HS : Hid (∀ w', Fr (fun _ => False) wr w' → w'.cell? ⟨b1, o1 + i, none⟩ = some (.slice x1 X1.length y1) ∧ w'.cell? ⟨b2, o2 + i, none⟩ = some (.slice x2 X2.length y2) ∧ (convert 28 9 (.slice x1 X1.length y1)).run Tryz.prog w' = .ok (.string ⟨X1.toArray⟩) w' ∧ (convert 28 9 (.slice x2 X2.length y2)).run Tryz.prog w' = .ok (.string ⟨X2.toArray⟩) w') :=
          hide (fun w' hf => ⟨(hf.cell (a := ⟨b1, o1 + i, none⟩) (World.block_lt_of_cell? _ _ p1) (fun t => t)).trans p1, (hf.cell (a := ⟨b2, o2 + i, none⟩) (World.block_lt_of_cell? _ _ p2) (fun t => t)).trans p2, conv_bat (q1.later hf), conv_bat (q2.later hf)⟩)
        clear hX1' hX2'
        clear ha hb hlen ht hF ha' hb' hc1 hc2 p1 q1 p2 q2 HR
        by_cases hX : X1 = X2
        · subst hX
          go_upto_region 6 with (fail)
          go_region_held3 (fun w' => w'.cell? ⟨b1, o1 + i, none⟩ = some (.slice x1 X1.length y1) ∧ w'.cell? ⟨b2, o2 + i, none⟩ = some (.slice x2 X1.length y2) ∧ (convert 28 9 (.slice x1 X1.length y1)).run Tryz.prog w' = .ok (.string ⟨X1.toArray⟩) w' ∧ (convert 28 9 (.slice x2 X1.length y2)).run Tryz.prog w' = .ok (.string ⟨X1.toArray⟩) w') (exact unhide HS _ ((Fr.refl _ _).drew)) (fail)
          go_wp2
          obtain ⟨hX1, hX2, hlt, ht, hF, hlen⟩ := unhide HX
          refine ⟨⟨i + 1, by omega, by go_num, hide ⟨?_, hF.drew⟩⟩, by simp [intOf]; omega⟩
          rw [List.take_add_one, List.take_add_one, ht, hX1, hX2]
        · have hXb : (X1 == X2) = false := by simpa using hX
          have HXX := hide hX
          clear hX
          go_upto_region 6 with (fail)
          go_region_held3 (fun w' => w'.cell? ⟨b1, o1 + i, none⟩ = some (.slice x1 X1.length y1) ∧ w'.cell? ⟨b2, o2 + i, none⟩ = some (.slice x2 X2.length y2) ∧ (convert 28 9 (.slice x1 X1.length y1)).run Tryz.prog w' = .ok (.string ⟨X1.toArray⟩) w' ∧ (convert 28 9 (.slice x2 X2.length y2)).run Tryz.prog w' = .ok (.string ⟨X2.toArray⟩) w') (exact unhide HS _ ((Fr.refl _ _).drew)) (fail)
          go_wp2
          go_ret
          obtain ⟨hX1, hX2, hlt, ht, hF, hlen⟩ := unhide HX
          refine ⟨?_, hF.drew⟩
          have hne : sameF la lb = false := by
            rw [sameF, decide_eq_false]
            intro e
            rw [e, hX2] at hX1
            injection hX1 with hX1
            exact unhide HXX hX1.symm
          rw [hne]; rfl
      · obtain rfl : i = la.length := by omega
        go_wp2
        go_ret
        obtain ⟨ha, hb, hlen⟩ := unhide HH
        obtain ⟨ht, hF⟩ := unhide HR
        rw [List.take_length, hlen, List.take_length] at ht
        exact ⟨by rw [sameF, decide_eq_true ht]; rfl, hF⟩
  · have hlI : ((la.length : Int) != (lb.length : Int)) = true := by simp; omega
    have hf : sameF la lb = false := by simp [sameF]; intro e; exact hlen (by rw [e])
    rw [hf]
    clear ha hb hlen
    go_enter Tryz.func13, Tryz.ntmps13
    go_wp2
    go_ret
    exact ⟨rfl, Fr.refl _ _⟩

end Go.Proofs.YtjkghgcdkfkekaaGreatDoor

