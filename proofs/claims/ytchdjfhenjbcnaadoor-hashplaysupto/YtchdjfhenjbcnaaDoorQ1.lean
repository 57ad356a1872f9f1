/- What HashPlays holds in memory: two hashes, the bytes that each has taken, the digests that came out; each apart. -/
import Derived.Test.YtchdjfhenjbcnaaDoorI2
import Derived.Test.YtchdjfhenjbcnaaDoorH6
namespace Go.Proofs.YtchdjfhenjbcnaaDoor
open Go.RowKit

/-- The rows' values. -/
def vals (ds : Nat → RD) (m : Nat) : List Value := (List.range m).map fun j => (ds j).val

theorem vals_length (ds : Nat → RD) (m : Nat) : (vals ds m).length = m := by simp [vals]
theorem vals_get (ds : Nat → RD) (m j : Nat) (hj : j < m) : (vals ds m)[j]? = some (ds j).val := by simp [vals, hj]

/-- One more. -/
def more (ds : Nat → RD) (m : Nat) (d : RD) : Nat → RD := fun j => if j = m then d else ds j

theorem more_last (ds : Nat → RD) (m : Nat) (d : RD) : more ds m d m = d := by simp [more]
theorem more_old (ds : Nat → RD) (m : Nat) (d : RD) {j : Nat} (h : j < m) : more ds m d j = ds j := by simp [more, Nat.ne_of_lt h]

theorem vals_more (ds : Nat → RD) (m : Nat) (d : RD) : vals (more ds m d) (m + 1) = vals ds m ++ [d.val] := by
  unfold vals
  rw [List.range_succ, List.map_append]
  congr 1
  · apply List.map_congr_left
    intro j hj
    rw [more_old ds m d (List.mem_range.1 hj)]
  · simp [more_last]

/-- A function that was set at one place. -/
def setAt {α : Type} (f : Nat → α) (i : Nat) (v : α) : Nat → α := fun j => if j = i then v else f j
theorem setAt_at {α : Type} (f : Nat → α) (i : Nat) (v : α) : setAt f i v i = v := by simp [setAt]
theorem setAt_ne {α : Type} (f : Nat → α) (i : Nat) (v : α) {j : Nat} (h : j ≠ i) : setAt f i v j = f j := by simp [setAt, h]

/-- Roles: what came behind a world has the role c. -/
def roleUp (R : Nat → Nat) (n c : Nat) : Nat → Nat := fun x => if n ≤ x then c else R x
theorem roleUp_new {R : Nat → Nat} {n c x : Nat} (h : n ≤ x) : roleUp R n c x = c := by simp [roleUp, h]
theorem roleUp_old {R : Nat → Nat} {n c x : Nat} (h : x < n) : roleUp R n c x = R x := by simp [roleUp, Nat.not_le.2 h]

/-- The two hashes (in block t), what each has taken (in block u), and the digests that came out; R: what each block is for. -/
structure PI (w wr : World) (t u : Nat) (P : Nat → Nat) (L M : Nat → List UInt8) (ao : Nat → Option Addr) (cap G : Nat → Nat) (lo : Option Addr) (lcap lg m : Nat) (ds : Nat → RD) (R : Nat → Nat) : Prop where
  hb : Blk wr t 32 2 (fun k => .pointer (some ⟨P k, 0, none⟩))
  ab : Blk wr u 33 2 (fun k => .slice (ao k) (M k).length (cap k))
  ha : ∀ k, k < 2 → HAt wr (P k) (L k)
  row : ∀ k, k < 2 → Row wr (.slice (ao k) (M k).length (cap k)) (G k) (M k)
  fr : Fr (fun _ => False) w wr
  arow : VRow wr lo lcap lg (vals ds m)
  own : ∀ j, j < m → Own wr (ds j)
  fit : ∀ j, j < m → (ds j).n + 9 ≤ 140737488355328
  rt : R t = 1
  ru : R u = 2
  rp : ∀ k, k < 2 → R (P k) = 3 + k
  rg : ∀ k, k < 2 → 0 < cap k → R (G k) = 5
  rl : 0 < lcap → R lg = 6
  rd : ∀ j, j < m → 0 < (ds j).cap → R (ds j).g = 7 + j
  r0 : ∀ x, x < w.heap.size → R x = 0

section
variable {w wr w1 : World} {t u : Nat} {P : Nat → Nat} {L M : Nat → List UInt8} {ao : Nat → Option Addr} {cap G : Nat → Nat} {lo : Option Addr} {lcap lg m : Nat} {ds : Nat → RD} {R : Nat → Nat}

theorem PI.glt (h : PI w wr t u P L M ao cap G lo lcap lg m ds R) (k : Nat) (hk : k < 2) (hc : 0 < cap k) : G k < wr.heap.size := by
  have hv := (h.row k hk).vrow
  exact hv.lt hc

/-- Roles may be given anew to what is not there yet. -/
theorem PI.roles (h : PI w wr t u P L M ao cap G lo lcap lg m ds R) {R' : Nat → Nat} (hR : ∀ x, x < wr.heap.size → R' x = R x) : PI w wr t u P L M ao cap G lo lcap lg m ds R' :=
  ⟨h.hb, h.ab, h.ha, h.row, h.fr, h.arow, h.own, h.fit, (hR _ h.hb.lt).trans h.rt, (hR _ h.ab.lt).trans h.ru, fun k hk => (hR _ (h.ha k hk).lt).trans (h.rp k hk), fun k hk hc => (hR _ (h.glt k hk hc)).trans (h.rg k hk hc),
    fun hc => (hR _ (h.arow.lt hc)).trans (h.rl hc), fun j hj hc => (hR _ ((h.own j hj).lt hc)).trans (h.rd j hj hc), fun x hx => (hR _ (Nat.lt_of_lt_of_le hx h.fr.size)).trans (h.r0 x hx)⟩

theorem PI.later (h : PI w wr t u P L M ao cap G lo lcap lg m ds R) (hF : Fr (fun _ => False) wr w1) : PI w w1 t u P L M ao cap G lo lcap lg m ds R :=
  ⟨h.hb.later hF, h.ab.later hF, fun k hk => (h.ha k hk).later hF, fun k hk => (h.row k hk).frame hF (fun t => t), h.fr.trans hF (fun _ _ t => t), h.arow.stay (fun hc => hF.block _ (h.arow.lt hc) (fun t => t)),
    fun j hj => (h.own j hj).stay (fun hc => hF.block _ ((h.own j hj).lt hc) (fun t => t)), h.fit, h.rt, h.ru, h.rp, h.rg, h.rl, h.rd, h.r0⟩

/-- A hash has taken more. -/
theorem PI.wrote (h : PI w wr t u P L M ao cap G lo lcap lg m ds R) {i : Nat} (hi : i < 2) {l : List UInt8} (hF : Fr (fun k => k = P i) wr w1) (hH : HAt w1 (P i) l) : PI w w1 t u P (setAt L i l) M ao cap G lo lcap lg m ds R := by
  have hp := h.rp i hi
  have ne : ∀ {x r : Nat}, R x = r → r ≠ 3 + i → ¬ x = P i := fun h1 h2 e => h2 (by rw [← h1, e, hp])
  refine ⟨h.hb.frame hF (ne h.rt (by omega)), h.ab.frame hF (ne h.ru (by omega)), fun k hk => ?_, fun k hk => (h.row k hk).elsewhere (fun hc => hF.block _ (h.glt k hk hc) (ne (h.rg k hk hc) (by omega))), h.fr.trans hF (fun x hx e => ne (h.r0 x hx) (by omega) e),
    h.arow.stay (fun hc => hF.block _ (h.arow.lt hc) (ne (h.rl hc) (by omega))), fun j hj => (h.own j hj).stay (fun hc => hF.block _ ((h.own j hj).lt hc) (ne (h.rd j hj hc) (by omega))), h.fit, h.rt, h.ru, h.rp, h.rg, h.rl, h.rd, h.r0⟩
  by_cases e : k = i
  · subst e
    rw [setAt_at]
    exact hH
  · rw [setAt_ne _ _ _ e]
    exact (h.ha k hk).frame hF (ne (h.rp k hk) (by omega))

theorem setCell_fr (w : World) (a : Addr) (v : Value) : Fr (fun k => k = a.block) w (w.setCell a v) := Fr.setCell (S := fun k => k = a.block) (Fr.refl _ w) (p := a) (fun _ => rfl) v

/-- What one has taken is noted. -/
theorem PI.noted (h : PI w wr t u P L M ao cap G lo lcap lg m ds R) {i : Nat} (hi : i < 2) {wd : World} (hF : Fr (fun _ => False) wr wd) {a : Option Addr} {l : List UInt8} {c g : Nat} (hr : Row wd (.slice a l.length c) g l) (hg : 0 < c → wr.heap.size ≤ g) :
    PI w (wd.setCell ⟨u, i, none⟩ (.slice a l.length c)) t u P L (setAt M i l) (setAt ao i a) (setAt cap i c) (setAt G i g) lo lcap lg m ds (roleUp R wr.heap.size 5) := by
  have h2 := (h.roles (R' := roleUp R wr.heap.size 5) (fun x hx => roleUp_old hx)).later hF
  have hult := h.ab.lt
  generalize hRr : roleUp R wr.heap.size 5 = R' at *
  have ne : ∀ {x r : Nat}, R' x = r → r ≠ 2 → ¬ x = u := fun h1 h3 e => h3 (by rw [← h1, e, h2.ru])
  have hS := setCell_fr wd ⟨u, i, none⟩ (.slice a l.length c)
  have hgr : 0 < c → R' g = 5 := fun hc => by rw [← hRr]; exact roleUp_new (hg hc)
  refine ⟨h2.hb.frame hS (ne h2.rt (by omega)), (h2.ab.set i hi _).same (fun j hj => ?_), fun k hk => (h2.ha k hk).frame hS (ne (h2.rp k hk) (by omega)), fun k hk => ?_, h2.fr.trans hS (fun x hx e => ne (h2.r0 x hx) (by omega) e),
    h2.arow.stay (fun hc => hS.block _ (h2.arow.lt hc) (ne (h2.rl hc) (by omega))), fun j hj => (h2.own j hj).stay (fun hc => hS.block _ ((h2.own j hj).lt hc) (ne (h2.rd j hj hc) (by omega))), h2.fit, h2.rt, h2.ru, h2.rp, fun k hk hc => ?_, h2.rl, h2.rd, h2.r0⟩
  · by_cases e : j = i
    · subst e
      simp only [setAt_at, if_true]
    · simp only [setAt_ne _ _ _ e, if_neg e]
  · by_cases e : k = i
    · subst e
      simp only [setAt_at]
      exact hr.elsewhere (fun hc => hS.block _ (hr.vrow.lt hc) (ne (hgr hc) (by omega)))
    · simp only [setAt_ne _ _ _ e]
      exact (h2.row k hk).elsewhere (fun hc => hS.block _ (h2.glt k hk hc) (ne (h2.rg k hk hc) (by omega)))
  · by_cases e : k = i
    · subst e
      rw [setAt_at] at hc ⊢
      exact hgr hc
    · rw [setAt_ne _ _ _ e] at hc ⊢
      exact h2.rg k hk hc

/-- One is noted to have taken what the other has. -/
theorem PI.alike (h : PI w wr t u P L M ao cap G lo lcap lg m ds R) {i j : Nat} (hi : i < 2) (hj : j < 2) :
    PI w (wr.setCell ⟨u, i, none⟩ (.slice (ao j) (M j).length (cap j))) t u P L (setAt M i (M j)) (setAt ao i (ao j)) (setAt cap i (cap j)) (setAt G i (G j)) lo lcap lg m ds R := by
  have ne : ∀ {x r : Nat}, R x = r → r ≠ 2 → ¬ x = u := fun h1 h3 e => h3 (by rw [← h1, e, h.ru])
  have hS := setCell_fr wr ⟨u, i, none⟩ (.slice (ao j) (M j).length (cap j))
  have hrow : ∀ k, k < 2 → Row (wr.setCell ⟨u, i, none⟩ (.slice (ao j) (M j).length (cap j))) (.slice (ao k) (M k).length (cap k)) (G k) (M k) := fun k hk => (h.row k hk).elsewhere (fun hc => hS.block _ (h.glt k hk hc) (ne (h.rg k hk hc) (by omega)))
  refine ⟨h.hb.frame hS (ne h.rt (by omega)), (h.ab.set i hi _).same (fun k hk => ?_), fun k hk => (h.ha k hk).frame hS (ne (h.rp k hk) (by omega)), fun k hk => ?_, h.fr.trans hS (fun x hx e => ne (h.r0 x hx) (by omega) e),
    h.arow.stay (fun hc => hS.block _ (h.arow.lt hc) (ne (h.rl hc) (by omega))), fun j hj => (h.own j hj).stay (fun hc => hS.block _ ((h.own j hj).lt hc) (ne (h.rd j hj hc) (by omega))), h.fit, h.rt, h.ru, h.rp, fun k hk hc => ?_, h.rl, h.rd, h.r0⟩
  · by_cases e : k = i
    · subst e
      simp only [setAt_at, if_true]
    · simp only [setAt_ne _ _ _ e, if_neg e]
  · by_cases e : k = i
    · subst e
      simp only [setAt_at]
      exact hrow j hj
    · simp only [setAt_ne _ _ _ e]
      exact hrow k hk
  · by_cases e : k = i
    · subst e
      rw [setAt_at] at hc ⊢
      exact h.rg j hj hc
    · rw [setAt_ne _ _ _ e] at hc ⊢
      exact h.rg k hk hc

/-- One has become a clone. -/
theorem PI.cloned (h : PI w wr t u P L M ao cap G lo lcap lg m ds R) {i : Nat} (hi : i < 2) {l : List UInt8} {q : Nat} {wd : World} (hN : NewH wr l q wd) :
    PI w (wd.setCell ⟨t, i, none⟩ (.pointer (some ⟨q, 0, none⟩))) t u (setAt P i q) (setAt L i l) M ao cap G lo lcap lg m ds (roleUp R wr.heap.size (3 + i)) := by
  obtain ⟨hq, hF, hqs⟩ := hN
  have h2 := (h.roles (R' := roleUp R wr.heap.size (3 + i)) (fun x hx => roleUp_old hx)).later hF
  have hqr : roleUp R wr.heap.size (3 + i) q = 3 + i := roleUp_new hqs
  generalize roleUp R wr.heap.size (3 + i) = R' at *
  have ne : ∀ {x r : Nat}, R' x = r → r ≠ 1 → ¬ x = t := fun h1 h3 e => h3 (by rw [← h1, e, h2.rt])
  have hS := setCell_fr wd ⟨t, i, none⟩ (.pointer (some ⟨q, 0, none⟩))
  refine ⟨(h2.hb.set i hi _).same (fun j hj => ?_), h2.ab.frame hS (ne h2.ru (by omega)), fun k hk => ?_, fun k hk => (h2.row k hk).elsewhere (fun hc => hS.block _ (h2.glt k hk hc) (ne (h2.rg k hk hc) (by omega))), h2.fr.trans hS (fun x hx e => ne (h2.r0 x hx) (by omega) e),
    h2.arow.stay (fun hc => hS.block _ (h2.arow.lt hc) (ne (h2.rl hc) (by omega))), fun j hj => (h2.own j hj).stay (fun hc => hS.block _ ((h2.own j hj).lt hc) (ne (h2.rd j hj hc) (by omega))), h2.fit, h2.rt, h2.ru, fun k hk => ?_, h2.rg, h2.rl, h2.rd, h2.r0⟩
  · by_cases e : j = i
    · subst e
      simp only [setAt_at, if_true]
    · simp only [setAt_ne _ _ _ e, if_neg e]
  · by_cases e : k = i
    · subst e
      simp only [setAt_at]
      exact hq.frame hS (ne hqr (by omega))
    · simp only [setAt_ne _ _ _ e]
      exact (h2.ha k hk).frame hS (ne (h2.rp k hk) (by omega))
  · by_cases e : k = i
    · subst e
      rw [setAt_at]
      exact hqr
    · rw [setAt_ne _ _ _ e]
      exact h2.rp k hk

/-- A digest that came out behind 'wr' is laid by. -/
theorem PI.app (h : PI w wr t u P L M ao cap G lo lcap lg m ds R) {wd : World} (hF : Fr (fun _ => False) wr wd) {d : RD} (hd : Own wd d) (hn : 0 < d.cap → wr.heap.size ≤ d.g) (hf : d.n + 9 ≤ 140737488355328) {w1 : World} {lo' : Option Addr} {lcap' lg' : Nat} (o : Obj)
    (hr : VRow w1 lo' lcap' lg' (vals ds m ++ [d.val])) (hg : Grew (wd.alloc o) lg lcap w1 lg' lcap') : ∃ R', PI w w1 t u P L M ao cap G lo' lcap' lg' (m + 1) (more ds m d) R' := by
  have h1 := (h.roles (R' := roleUp R wr.heap.size (7 + m)) (fun x hx => roleUp_old hx)).later hF
  have hdr : 0 < d.cap → roleUp R wr.heap.size (7 + m) d.g = 7 + m := fun hc => roleUp_new (hn hc)
  generalize roleUp R wr.heap.size (7 + m) = R1 at *
  have h2 := h1.roles (R' := roleUp R1 wd.heap.size 6) (fun x hx => roleUp_old hx)
  have hdr2 : 0 < d.cap → roleUp R1 wd.heap.size 6 d.g = 7 + m := fun hc => (roleUp_old (hd.lt hc)).trans (hdr hc)
  have hnew : ∀ x, wd.heap.size ≤ x → roleUp R1 wd.heap.size 6 x = 6 := fun x hx => roleUp_new hx
  generalize roleUp R1 wd.heap.size 6 = R' at *
  refine ⟨R', ?_⟩
  have hFa : Fr (fun k => k = lg ∧ 0 < lcap) wd w1 := by
    rcases hg with ⟨_, _, hf⟩ | ⟨_, _, hf⟩
    · exact ((Fr.refl _ wd).alloc o).trans hf (fun _ _ t => t)
    · exact ((Fr.refl _ wd).alloc o).trans hf (fun _ _ t => t.elim)
  have hll : (lg' = lg ∧ lcap' = lcap) ∨ wd.heap.size ≤ lg' := by
    rcases hg with ⟨e1, e2, _⟩ | ⟨hn, _, _⟩
    · exact .inl ⟨e1, e2⟩
    · refine .inr ?_
      simp at hn
      omega
  have ne : ∀ {x r : Nat}, R' x = r → r ≠ 6 → ¬ (x = lg ∧ 0 < lcap) := fun h3 h4 e => h4 (by rw [← h3, e.1, h2.rl e.2])
  refine ⟨h2.hb.frame hFa (ne h2.rt (by omega)), h2.ab.frame hFa (ne h2.ru (by omega)), fun k hk => (h2.ha k hk).frame hFa (ne (h2.rp k hk) (by omega)), fun k hk => (h2.row k hk).elsewhere (fun hc => hFa.block _ (h2.glt k hk hc) (ne (h2.rg k hk hc) (by omega))), h2.fr.trans hFa (fun x hx e => ne (h2.r0 x hx) (by omega) e),
    by rw [vals_more]; exact hr, fun j hj => ?_, fun j hj => ?_, h2.rt, h2.ru, h2.rp, h2.rg, fun hc => ?_, fun j hj hc => ?_, h2.r0⟩
  · by_cases e : j = m
    · subst e
      rw [more_last]
      exact hd.stay (fun hc => hFa.block _ (hd.lt hc) (ne (hdr2 hc) (by omega)))
    · rw [more_old ds m d (by omega)]
      exact (h2.own j (by omega)).stay (fun hc => hFa.block _ ((h2.own j (by omega)).lt hc) (ne (h2.rd j (by omega) hc) (by omega)))
  · by_cases e : j = m
    · subst e
      rw [more_last]; exact hf
    · rw [more_old ds m d (by omega)]; exact h2.fit j (by omega)
  · rcases hll with ⟨e1, e2⟩ | e
    · rw [e1]; exact h2.rl (by omega)
    · exact hnew _ e
  · by_cases e : j = m
    · subst e
      rw [more_last] at hc ⊢
      exact hdr2 hc
    · rw [more_old ds m d (by omega)] at hc ⊢
      exact h2.rd j (by omega) hc

/-- The digests may be handed to Owned. -/
theorem PI.handed (h : PI w wr t u P L M ao cap G lo lcap lg m ds R) (hm : m ≤ 1048576) : Handed wr lg m ds := by
  refine ⟨fun j hj => ?_, h.own, fun j k hj hk hne hcj hck e => ?_, fun j hj hc e => ?_, h.fit, hm⟩
  · have hl : j < (vals ds m).length := by rw [vals_length]; exact hj
    have h1 := h.arow.cells j hl
    have h2 := vals_get ds m j hj
    rw [List.getElem?_eq_getElem hl] at h2
    rw [h1, Option.some.inj h2]
  · have h1 := h.rd j hj hcj
    have h2 := h.rd k hk hck
    rw [e, h2] at h1
    omega
  · have hle := h.arow.le
    rw [vals_length] at hle
    have h1 := h.rd j hj hc
    rw [e, h.rl (by omega)] at h1
    omega

theorem PI.addr (h : PI w wr t u P L M ao cap G lo lcap lg m ds R) : 0 < m → lo = some ⟨lg, 0, none⟩ := by
  intro hm
  have hle := h.arow.le
  rw [vals_length] at hle
  exact h.arow.ad (by omega)

/-- Behind Owned the hashes, and what they have taken, are as they were. -/
def PB (w wr : World) (t u : Nat) (P : Nat → Nat) (L : Nat → List UInt8) (ao : Nat → Option Addr) (cap : Nat → Nat) : Prop :=
  Blk wr t 32 2 (fun k => .pointer (some ⟨P k, 0, none⟩)) ∧ Blk wr u 33 2 (fun k => .slice (ao k) (L k).length (cap k)) ∧ (∀ k, k < 2 → HAt wr (P k) (L k)) ∧ (∀ k, k < 2 → ∃ g, Row wr (.slice (ao k) (L k).length (cap k)) g (L k)) ∧ Fr (fun _ => False) w wr

theorem PI.behind (h : PI w wr t u P L L ao cap G lo lcap lg m ds R) (hF : Fr (fun k => ∃ j, j < m ∧ 0 < (ds j).cap ∧ k = (ds j).g) wr w1) : PB w w1 t u P L ao cap := by
  have ne : ∀ {x r : Nat}, R x = r → r < 7 → ¬ ∃ j, j < m ∧ 0 < (ds j).cap ∧ x = (ds j).g := fun h1 h2 ⟨j, hj, hc, e⟩ => by
    have h3 := h.rd j hj hc
    rw [← e, h1] at h3
    omega
  exact ⟨h.hb.frame hF (ne h.rt (by omega)), h.ab.frame hF (ne h.ru (by omega)), fun k hk => (h.ha k hk).frame hF (ne (h.rp k hk) (by omega)), fun k hk => ⟨_, (h.row k hk).elsewhere (fun hc => hF.block _ (h.glt k hk hc) (ne (h.rg k hk hc) (by omega)))⟩, h.fr.trans hF (fun x hx e => ne (h.r0 x hx) (by omega) e)⟩

end
end Go.Proofs.YtchdjfhenjbcnaaDoor
