import Derived.Test.YtmgejkenpfihmaaGreatJN2
/- Taps in memory; a token's taps: Right. -/
namespace Go.Proofs.YtmgejkenpfihmaaGreat
open Go.RowKit

def tpL (t : Tp) : List Value := [.int .i64 t.dev, .int .i64 t.ctr, .string t.tok, .int .i64 t.kind, .int .i64 t.place, .int .i64 t.time]
def tpV (l : List Tp) : List Value := l.flatMap tpL
theorem tpV_length (l : List Tp) : (tpV l).length = l.length * 6 := flat_length tpL 6 (fun _ => rfl) l
theorem tpV_one (l : List Tp) : ∀ u ∈ tpV l, u.oneCell' = true := flat_one _ (fun x u hu => by simp only [tpL, List.mem_cons, List.not_mem_nil, or_false] at hu; rcases hu with rfl | rfl | rfl | rfl | rfl | rfl <;> rfl) l

/-- One tap's cells in a row of them. -/
def TpAt (w : World) (b o : Nat) (t : Tp) : Prop :=
  w.cell? ⟨b, o, none⟩ = some (.int .i64 t.dev) ∧ w.cell? ⟨b, o + 1, none⟩ = some (.int .i64 t.ctr) ∧ w.cell? ⟨b, o + 2, none⟩ = some (.string t.tok) ∧ w.cell? ⟨b, o + 3, none⟩ = some (.int .i64 t.kind) ∧ w.cell? ⟨b, o + 4, none⟩ = some (.int .i64 t.place) ∧ w.cell? ⟨b, o + 5, none⟩ = some (.int .i64 t.time)

theorem CAt.tp {w : World} {ao : Option Addr} {l : List Tp} (h : CAt w ao (tpV l)) {i : Nat} (hi : i < l.length) : ∃ b off, ao = some ⟨b, off, none⟩ ∧ TpAt w b (off + i * 6) l[i] := by
  obtain ⟨b, off, e, hc⟩ := cat_cell tpL 6 (fun _ => rfl) h hi (by omega)
  exact ⟨b, off, e, hc 0 (by omega), hc 1 (by omega), hc 2 (by omega), hc 3 (by omega), hc 4 (by omega), hc 5 (by omega)⟩

theorem TpAt.keep {w w' : World} {b o : Nat} {t : Tp} (h : TpAt w b o t) (hf : Fr (fun _ => False) w w') : TpAt w' b o t := by
  obtain ⟨h0, h1, h2, h3, h4, h5⟩ := h
  exact ⟨(hf.cell (World.block_lt_of_cell? _ _ h0) (fun t => t)).trans h0, (hf.cell (World.block_lt_of_cell? _ _ h1) (fun t => t)).trans h1, (hf.cell (World.block_lt_of_cell? _ _ h2) (fun t => t)).trans h2, (hf.cell (World.block_lt_of_cell? _ _ h3) (fun t => t)).trans h3, (hf.cell (World.block_lt_of_cell? _ _ h4) (fun t => t)).trans h4, (hf.cell (World.block_lt_of_cell? _ _ h5) (fun t => t)).trans h5⟩

/-- The first thing that is wrong with taps. -/
def rgt : Option Tp → List Tp → Int
  | _, [] => 0
  | none, x :: r => if tapOk x then rgt (some x) r else 80
  | some a, x :: r => if tapOk x then (if folB x a then rgt (some x) r else 170) else 80
def rightT (l : List Tp) : Int := if 2000 < l.length then 2 else rgt none l

def prevT (l : List Tp) (i : Nat) : Option Tp := if i = 0 then none else l[i - 1]?

theorem bx_tap {w : World} {b : Nat} {t : Tp} {T : TypeId} (h : Bx w b (tpC t) T) : TpAt w b 0 t := ⟨h.cell 0, h.cell 1, h.cell 2, h.cell 3, h.cell 4, h.cell 5⟩

set_option maxHeartbeats 2000000 in
theorem jright_any (w : World) (ao : Option Addr) (cap : Nat) (l : List Tp) (h : CAt w ao (tpV l)) (hl : l.length ≤ 4398046511104) :
    Calls Tryz.prog 7 #[.slice ao l.length cap] w fun e w' => e = .returned (.int .i64 (rightT l)) ∧ Fr (fun _ => False) w w' := by
  have H := hide h
  clear h
  by_cases hlong : 2000 < l.length
  · have HR : Hid (rightT l = 2) := hide (by simp [rightT, hlong])
    rw [unhide HR]
    clear HR
    go_enter Tryz.func7, Tryz.ntmps7
    go_wp2
    go_ret
    exact ⟨rfl, Fr.refl _ _⟩
  · have HR : Hid (rightT l = rgt none l) := hide (by simp [rightT, hlong])
    rw [unhide HR]
    obtain ⟨r, Hr⟩ : ∃ r, Hid (rgt none l = r) := ⟨_, rfl⟩
    rw [unhide Hr]
    clear HR
    go_enter Tryz.func7, Tryz.ntmps7
    go_wp2
    go_loopw [10] (fun iv wr => ∃ (i : Nat), i ≤ l.length ∧ iv = .int .i64 i ∧ Hid (Fr (fun _ => False) w wr ∧ rgt (prevT l i) (l.drop i) = r)) (fun iv _ => l.length - (intOf iv).toNat)
    case atStart => exact ⟨0, Nat.zero_le _, rfl, Fr.refl _ _, unhide Hr⟩
    case round =>
      obtain ⟨i, hi, rfl, HI⟩ := hrel
      by_cases hil : i < l.length
      · obtain ⟨b, off, rfl, c0, c1, c2, c3, c4, c5⟩ := ((unhide H).keep (unhide HI).1).tp hil
        have ht := (unhide HI).2
        rw [List.drop_eq_getElem_cons hil] at ht
        have HM := hide (fun w' => mayBe_any w' l[i])
        have HP : Hid (prevT l (i + 1) = some l[i]) := hide (by simp [prevT, hil])
        obtain ⟨x, hx⟩ : ∃ x, l[i] = x := ⟨_, rfl⟩
        simp only [hx] at HM HP ht c0 c1 c2 c3 c4 c5
        obtain ⟨d1, k1, t1, q1, p1, m1⟩ := x
        simp only [tpC] at HM c0 c1 c2 c3 c4 c5
        cases hok : tapOk ⟨d1, k1, t1, q1, p1, m1⟩ with
        | false =>
          have HE : Hid (r = 80) := hide (by rw [← ht]; cases hq : prevT l i <;> simp [rgt, hok])
          simp only [hok] at HM
          clear ht hok HP hx
          go_wp2_with fail
          refine (unhide HM _).mono ?_
          rintro e w1 ⟨rfl, hF⟩
          have HF : Hid (Fr (fun _ => False) w w1) := hide ((((unhide HI).1).alloc _).trans hF (fun _ _ t => t))
          clear hF HM
          go_wp2
          go_ret
          exact ⟨by rw [unhide HE]; rfl, unhide HF⟩
        | true =>
          simp only [hok] at HM
          have HIF := hide (unhide HI).1
          have HT := hide ht
          clear ht hx HI
          go_wp2_with fail
          refine (unhide HM _).mono ?_
          rintro e w1 ⟨rfl, hF⟩
          have hBx := (Bx.new wr (tpC ⟨d1, k1, t1, q1, p1, m1⟩) 24).keep hF
          have HF : Hid (Fr (fun _ => False) w w1) := hide (((unhide HIF).alloc _).trans hF (fun _ _ t => t))
          clear hF HM c0 c1 c2 c3 c4 c5
          obtain ⟨B, hB⟩ : ∃ B, wr.heap.size = B := ⟨_, rfl⟩
          rw [hB] at hBx ⊢
          obtain ⟨b0, b1, b2, b3, b4, b5⟩ := bx_tap hBx
          simp only [Nat.zero_add] at b0 b1 b2 b3 b4 b5
          clear hBx hB
          rcases Nat.eq_zero_or_pos i with h0 | h0
          · subst h0
            have HN : Hid (rgt (prevT l (0 + 1)) (l.drop (0 + 1)) = r) := hide (by
              rw [unhide HP, ← unhide HT]
              show _ = rgt none _
              simp [rgt, hok])
            clear HT HP hok
            go_wp2_with fail
            go_quiet (fail)
            go_wp2
            exact ⟨⟨0 + 1, by omega, by go_num, (unhide HF).drewN _, unhide HN⟩, by simp [intOf]; omega⟩
          · obtain ⟨k, rfl⟩ : ∃ k, i = k + 1 := ⟨i - 1, by omega⟩
            have hkl : k < l.length := by omega
            obtain ⟨b', off', hao, a0, a1, a2, a3, a4, a5⟩ := ((unhide H).keep (unhide HF)).tp hkl
            injection hao with hao
            injection hao with hb' ho'
            subst hb' ho'
            have HP2 : prevT l (k + 1) = some l[k] := by simp [prevT, hkl]
            have HM := hide (fun w' => follows_any w' ⟨d1, k1, t1, q1, p1, m1⟩ l[k])
            have HT2 := unhide HT
            rw [HP2] at HT2
            clear HT HP2
            obtain ⟨y, hy⟩ : ∃ y, l[k] = y := ⟨_, rfl⟩
            simp only [hy] at HM HT2 a0 a1 a2 a3 a4 a5
            clear hy
            have HS : Hid (rgt (some y) (⟨d1, k1, t1, q1, p1, m1⟩ :: l.drop (k + 1 + 1)) = if folB ⟨d1, k1, t1, q1, p1, m1⟩ y then rgt (some ⟨d1, k1, t1, q1, p1, m1⟩) (l.drop (k + 1 + 1)) else 170) := hide (by simp [rgt, hok])
            obtain ⟨d2, k2, t2, q2, p2, m2⟩ := y
            simp only [tpC] at HM a0 a1 a2 a3 a4 a5
            generalize folB ⟨d1, k1, t1, q1, p1, m1⟩ ⟨d2, k2, t2, q2, p2, m2⟩ = fb at *
            have HT3 : Hid ((if fb then rgt (some ⟨d1, k1, t1, q1, p1, m1⟩) (l.drop (k + 1 + 1)) else 170) = r) := hide (by rw [← unhide HS]; exact HT2)
            have HKI : Hid (k + 1 < l.length) := hide hil
            clear HT2 HS hok h0
            obtain ⟨Z, hZ⟩ : ∃ Z : Int, ((k + 1 : Nat) : Int) = Z := ⟨_, rfl⟩
            have hw1 : IntKind.i64.wrap (Z - 1) = (k : Int) := by rw [← hZ, IntKind.wrap_i64]; omega
            have hx0 : (0 : Int) ≤ (k : Int) := by omega
            have hx1 : (k : Int) < (l.length : Int) := by omega
            have hx2 : decide ((0 : Int) ≤ (k : Int)) = true := by simp
            have hx3 : decide ((k : Int) < (l.length : Int)) = true := by simp; omega
            have hx4 : ((k : Int)).toNat = k := by simp
            have hg : decide ((0 : Int) < Z) = true := by rw [← hZ]; simp
            rw [hZ]
            have HZ := hide hZ
            clear hZ hi hil
            have HKP : Hid (∀ u, Fr (fun _ => False) w1 u → u.cell? ⟨B, 0, none⟩ = some (.int .i64 d1) ∧ u.cell? ⟨B, 1, none⟩ = some (.int .i64 k1) ∧ u.cell? ⟨B, 2, none⟩ = some (.string t1) ∧ u.cell? ⟨B, 3, none⟩ = some (.int .i64 q1) ∧ u.cell? ⟨B, 4, none⟩ = some (.int .i64 p1) ∧ u.cell? ⟨B, 5, none⟩ = some (.int .i64 m1) ∧ u.cell? ⟨b, off + k * 6, none⟩ = some (.int .i64 d2) ∧ u.cell? ⟨b, off + k * 6 + 1, none⟩ = some (.int .i64 k2) ∧ u.cell? ⟨b, off + k * 6 + 2, none⟩ = some (.string t2) ∧ u.cell? ⟨b, off + k * 6 + 3, none⟩ = some (.int .i64 q2) ∧ u.cell? ⟨b, off + k * 6 + 4, none⟩ = some (.int .i64 p2) ∧ u.cell? ⟨b, off + k * 6 + 5, none⟩ = some (.int .i64 m2)) := hide (fun u hf => by
              have f : ∀ {a : Addr} {v : Value}, w1.cell? a = some v → u.cell? a = some v := fun {a v} e => (hf.cell (World.block_lt_of_cell? _ _ e) (fun t => t)).trans e
              exact ⟨f b0, f b1, f b2, f b3, f b4, f b5, f a0, f a1, f a2, f a3, f a4, f a5⟩)
            cases fb with
            | false =>
              have HE : Hid (r = 170) := hide (by have := unhide HT3; simpa using this.symm)
              go_wp2_with fail
              go_region_held3 (fun u => u.cell? ⟨B, 0, none⟩ = some (.int .i64 d1) ∧ u.cell? ⟨B, 1, none⟩ = some (.int .i64 k1) ∧ u.cell? ⟨B, 2, none⟩ = some (.string t1) ∧ u.cell? ⟨B, 3, none⟩ = some (.int .i64 q1) ∧ u.cell? ⟨B, 4, none⟩ = some (.int .i64 p1) ∧ u.cell? ⟨B, 5, none⟩ = some (.int .i64 m1) ∧ u.cell? ⟨b, off + k * 6, none⟩ = some (.int .i64 d2) ∧ u.cell? ⟨b, off + k * 6 + 1, none⟩ = some (.int .i64 k2) ∧ u.cell? ⟨b, off + k * 6 + 2, none⟩ = some (.string t2) ∧ u.cell? ⟨b, off + k * 6 + 3, none⟩ = some (.int .i64 q2) ∧ u.cell? ⟨b, off + k * 6 + 4, none⟩ = some (.int .i64 p2) ∧ u.cell? ⟨b, off + k * 6 + 5, none⟩ = some (.int .i64 m2)) (first | go_keep | exact unhide HKP _ (unhide HF2))
                (first | (go_at_call 23; refine (unhide HM _).mono ?_; rintro e w2 ⟨rfl, hF2⟩; have HF2 := hide (Fr.trans ((Fr.refl (fun _ => False) w1).drew) hF2 (fun _ _ t => t)); clear hF2))
              have HF3 : Hid (Fr (fun _ => False) w w2) := hide ((unhide HF).trans (unhide HF2) (fun _ _ t => t))
              clear HF2 HF HKP HM
              obtain rfl := unhide HZ
              clear HZ hw1 hg
              go_wp2
              go_ret
              exact ⟨by rw [unhide HE]; rfl, unhide HF3⟩
            | true =>
              have HN : Hid (rgt (prevT l (k + 1 + 1)) (l.drop (k + 1 + 1)) = r) := hide (by rw [unhide HP]; simpa using unhide HT3)
              go_wp2_with fail
              go_region_held3 (fun u => u.cell? ⟨B, 0, none⟩ = some (.int .i64 d1) ∧ u.cell? ⟨B, 1, none⟩ = some (.int .i64 k1) ∧ u.cell? ⟨B, 2, none⟩ = some (.string t1) ∧ u.cell? ⟨B, 3, none⟩ = some (.int .i64 q1) ∧ u.cell? ⟨B, 4, none⟩ = some (.int .i64 p1) ∧ u.cell? ⟨B, 5, none⟩ = some (.int .i64 m1) ∧ u.cell? ⟨b, off + k * 6, none⟩ = some (.int .i64 d2) ∧ u.cell? ⟨b, off + k * 6 + 1, none⟩ = some (.int .i64 k2) ∧ u.cell? ⟨b, off + k * 6 + 2, none⟩ = some (.string t2) ∧ u.cell? ⟨b, off + k * 6 + 3, none⟩ = some (.int .i64 q2) ∧ u.cell? ⟨b, off + k * 6 + 4, none⟩ = some (.int .i64 p2) ∧ u.cell? ⟨b, off + k * 6 + 5, none⟩ = some (.int .i64 m2)) (first | go_keep | exact unhide HKP _ (unhide HF2))
                (first | (go_at_call 23; refine (unhide HM _).mono ?_; rintro e w2 ⟨rfl, hF2⟩; have HF2 := hide (Fr.trans ((Fr.refl (fun _ => False) w1).drew) hF2 (fun _ _ t => t)); clear hF2))
              have HF3 : Hid (Fr (fun _ => False) w w2) := hide ((unhide HF).trans (unhide HF2) (fun _ _ t => t))
              clear HF2 HF HKP HM
              obtain rfl := unhide HZ
              clear HZ hw1 hg
              go_wp2
              exact ⟨⟨k + 1 + 1, unhide HKI, by go_num, unhide HF3, unhide HN⟩, by have := unhide HKI; simp [intOf]; omega⟩
      · obtain rfl : i = l.length := by omega
        have ht := (unhide HI).2
        rw [List.drop_length] at ht
        have HN : Hid (r = 0) := hide (by rw [← ht]; cases prevT l l.length <;> rfl)
        have HF := hide (unhide HI).1
        clear ht HI H
        go_wp2
        go_ret
        exact ⟨by rw [unhide HN]; rfl, unhide HF⟩

end Go.Proofs.YtmgejkenpfihmaaGreat

