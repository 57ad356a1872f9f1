import Derived.Test.YtabhfeocelljdaaGreatDoorZG2
/- Contracts: NewSender, NewReceiver, knows, Take, Ack. -/
namespace Go.Proofs.YtabhfeocelljdaaGreatDoor
open Go.RowKit Go.Maps

theorem within_yes (w : World) {n a b : Int} (h : a ≤ n ∧ n ≤ b) : Calls Tryz.prog 37 #[.int .i64 n, .int .i64 a, .int .i64 b] w fun e w' => e = .returned (.bool true) ∧ w' = w := by
  have := within_any w n a b
  rw [decide_eq_true h] at this
  exact this
theorem within_no (w : World) {n a b : Int} (h : ¬ (a ≤ n ∧ n ≤ b)) : Calls Tryz.prog 37 #[.int .i64 n, .int .i64 a, .int .i64 b] w fun e w' => e = .returned (.bool false) ∧ w' = w := by
  have := within_any w n a b
  rw [decide_eq_false h] at this
  exact this

/-- A sender in memory. -/
structure SN (w : World) (p b : Nat) (s : Snd) : Prop where
  bx : Bx w p #[.int .i64 s.win, .int .i64 s.bat, .int .i64 s.evy, .int .i64 s.clk, .map (some b)] 73
  mp : SMap w b s.sent
  ne : p ≠ b
  win : 1 ≤ s.win ∧ s.win ≤ 64
  bat : 1 ≤ s.bat ∧ s.bat ≤ 8
  evy : 1 ≤ s.evy ∧ s.evy ≤ 1000
  clk : 0 ≤ s.clk ∧ s.clk ≤ 1152921504606846976
  tks : ∀ x ∈ s.sent, 0 ≤ x.2 ∧ x.2 ≤ s.clk
theorem SN.frame {S : Nat → Prop} {w w' : World} {p b : Nat} {s : Snd} (h : SN w p b s) (k : Fr S w w') (hp : ¬ S p) (hb : ¬ S b) : SN w' p b s :=
  ⟨h.bx.frame k hp, h.mp.frame k hb, h.ne, h.win, h.bat, h.evy, h.clk, h.tks⟩

def sndOk (a b c : Int) : Prop := (1 ≤ a ∧ a ≤ 64) ∧ (1 ≤ b ∧ b ≤ 8) ∧ (1 ≤ c ∧ c ≤ 1000)
instance (a b c : Int) : Decidable (sndOk a b c) := by unfold sndOk; infer_instance

theorem newsender_ok (w : World) {a b c : Int} (h : sndOk a b c) :
    Calls Tryz.prog 15 #[.int .i64 a, .int .i64 b, .int .i64 c] w fun e w' => ∃ p m, e = .returned (.tuple #[.pointer (some ⟨p, 0, none⟩), .int .i64 0]) ∧ SN w' p m ⟨a, b, c, 0, []⟩ ∧ Fr (fun _ => False) w w' ∧ w.heap.size ≤ p ∧ w.heap.size ≤ m := by
  have H1 := hide h
  clear h
  go_enter Tryz.func15, Tryz.ntmps15
  go_wp2_with fail
  refine (within_yes _ (unhide H1).1).mono ?_
  rintro e w1 ⟨rfl, rfl⟩
  go_wp2_with fail
  refine (within_yes _ (unhide H1).2.1).mono ?_
  rintro e w1 ⟨rfl, rfl⟩
  go_wp2_with fail
  refine (within_yes _ (unhide H1).2.2).mono ?_
  rintro e w1 ⟨rfl, rfl⟩
  have hmk := @run_makeMap Tryz.prog
  go_wp2
  go_ret2
  have hs := SMap.made w1
  have hbx := Bx.new (w1.alloc (.map #[] 0)) #[.int .i64 a, .int .i64 b, .int .i64 c, .int .i64 0, .map (some w1.heap.size)] 73
  rw [heap_alloc] at hbx
  refine ⟨_, _, rfl, ⟨hbx, hs.frame ((Fr.refl (fun _ => False) _).alloc _) (fun t => t), by omega, (unhide H1).1, (unhide H1).2.1, (unhide H1).2.2, ⟨Int.le_refl _, by show (0 : Int) ≤ _; omega⟩, fun x hx => by (cases hx)⟩, ((Fr.refl _ _).alloc _).alloc _, by omega, Nat.le_refl _⟩

theorem newsender_bad (w : World) {a b c : Int} (h : ¬ sndOk a b c) :
    Calls Tryz.prog 15 #[.int .i64 a, .int .i64 b, .int .i64 c] w fun e w' => e = .returned (.tuple #[.pointer none, .int .i64 1]) ∧ w' = w := by
  unfold sndOk at h
  by_cases h1 : 1 ≤ a ∧ a ≤ 64
  · have H1 := hide h1
    by_cases h2 : 1 ≤ b ∧ b ≤ 8
    · have H2 := hide h2
      have H3 : Hid (¬ (1 ≤ c ∧ c ≤ 1000)) := hide (fun t => h ⟨h1, h2, t⟩)
      clear h h1 h2
      go_enter Tryz.func15, Tryz.ntmps15
      go_wp2_with fail
      refine (within_yes _ (unhide H1)).mono ?_
      rintro e w1 ⟨rfl, rfl⟩
      go_wp2_with fail
      refine (within_yes _ (unhide H2)).mono ?_
      rintro e w1 ⟨rfl, rfl⟩
      go_wp2_with fail
      refine (within_no _ (unhide H3)).mono ?_
      rintro e w1 ⟨rfl, rfl⟩
      go_wp2
      go_ret2
      exact ⟨rfl, rfl⟩
    · have H2 := hide h2
      clear h h1 h2
      go_enter Tryz.func15, Tryz.ntmps15
      go_wp2_with fail
      refine (within_yes _ (unhide H1)).mono ?_
      rintro e w1 ⟨rfl, rfl⟩
      go_wp2_with fail
      refine (within_no _ (unhide H2)).mono ?_
      rintro e w1 ⟨rfl, rfl⟩
      go_wp2
      go_ret2
      exact ⟨rfl, rfl⟩
  · have H1 := hide h1
    clear h h1
    go_enter Tryz.func15, Tryz.ntmps15
    go_wp2_with fail
    refine (within_no _ (unhide H1)).mono ?_
    rintro e w1 ⟨rfl, rfl⟩
    go_wp2
    go_ret2
    exact ⟨rfl, rfl⟩

/-- A receiver in memory: the next number. -/
def RV (w : World) (p : Nat) (n : Int) : Prop := Bx w p #[.int .i64 n] 87

theorem newreceiver_any (w : World) : Calls Tryz.prog 20 #[] w fun e w' => e = .returned (.pointer (some ⟨w.heap.size, 0, none⟩)) ∧ RV w' w.heap.size 0 ∧ w' = w.alloc (.cells #[.int .i64 0] 87) := by
  go_enter Tryz.func20, Tryz.ntmps20
  go_wp2
  go_ret
  exact ⟨rfl, Bx.new _ _ _, rfl⟩

theorem knows_any {w : World} {p : Nat} {n : Int} (h : RV w p n) : Calls Tryz.prog 45 #[.pointer (some ⟨p, 0, none⟩)] w fun e w' => e = .returned (.bool (decide (0 < n))) ∧ w' = w := by
  have c0 : w.cell? ⟨p, 0, none⟩ = some (.int .i64 n) := Bx.cell h 0
  clear h
  go_enter Tryz.func45, Tryz.ntmps45
  go_wp2
  go_ret
  exact ⟨rfl, rfl⟩

/-- What Take makes of the next number. -/
def takeF (n q : Int) : Int := if 0 < n ∧ n ≤ q ∧ q ≤ 4294967295 then q + 1 else n

theorem take_any {w : World} {p : Nat} {n : Int} (h : RV w p n) (q : Int) : Calls Tryz.prog 22 #[.pointer (some ⟨p, 0, none⟩), .int .i64 q] w fun e w' => e = .returned (.tuple #[]) ∧ RV w' p (takeF n q) ∧ Fr (· = p) w w' ∧ w'.heap.size = w.heap.size := by
  have c0 : w.cell? ⟨p, 0, none⟩ = some (.int .i64 n) := Bx.cell h 0
  have f0 : w.frozen? ⟨p, 0, none⟩ = false := Bx.frozen h 0
  have H := hide h
  unfold takeF
  clear h
  by_cases h1 : 0 < n
  · have e1 : decide (0 < n) = true := by simp [h1]
    by_cases h2 : n ≤ q ∧ q ≤ 4294967295
    · rw [if_pos ⟨h1, h2⟩]
      have H2 := hide h2
      have hq : q ≤ 4294967295 := h2.2
      have hq0 : 0 ≤ q := by omega
      have H1 := hide e1
      clear h2 h1 e1
      go_enter Tryz.func22, Tryz.ntmps22
      go_wp2_with fail
      refine (knows_any (unhide H)).mono ?_
      rw [unhide H1]
      rintro e w1 ⟨rfl, rfl⟩
      go_wp2_with fail
      refine (within_yes _ (unhide H2)).mono ?_
      rintro e w1 ⟨rfl, rfl⟩
      go_wp2
      go_end0
      exact ⟨rfl, by have := Bx.setCell (unhide H) 0 (.int .i64 (q + 1)); exact this, Fr.setCell (S := fun k => k = p) (Fr.refl _ _) (p := ⟨p, 0, none⟩) (fun _ => rfl) _, by simp⟩
    · rw [if_neg (fun t => h2 t.2)]
      have H2 := hide h2
      have H1 := hide e1
      clear h2 h1 e1
      go_enter Tryz.func22, Tryz.ntmps22
      go_wp2_with fail
      refine (knows_any (unhide H)).mono ?_
      rw [unhide H1]
      rintro e w1 ⟨rfl, rfl⟩
      go_wp2_with fail
      refine (within_no _ (unhide H2)).mono ?_
      rintro e w1 ⟨rfl, rfl⟩
      go_wp2
      go_end0
      exact ⟨rfl, unhide H, Fr.refl _ _, rfl⟩
  · rw [if_neg (fun t => h1 t.1)]
    have e1 : decide (0 < n) = false := by simp; omega
    have H1 := hide e1
    clear h1 e1
    go_enter Tryz.func22, Tryz.ntmps22
    go_wp2_with fail
    refine (knows_any (unhide H)).mono ?_
    rw [unhide H1]
    rintro e w1 ⟨rfl, rfl⟩
    go_wp2
    go_end0
    exact ⟨rfl, unhide H, Fr.refl _ _, rfl⟩

theorem ack_some {w : World} {p : Nat} {n : Int} (h : RV w p n) (hn : 0 < n) (hn2 : n ≤ 4294967296) : Calls Tryz.prog 23 #[.pointer (some ⟨p, 0, none⟩)] w fun e w' => e = .returned (.tuple #[.agg #[.int .i64 2, .int .i64 0, .int .i64 (n - 1), .slice none 0 0, .slice none 0 0], .bool true]) ∧ Hid (Fr (fun _ => False) w w') := by
  have H := hide h
  have e1 : decide (0 < n) = true := by simp [hn]
  have H1 := hide e1
  have hlt := h.lt
  have c0 : (w.alloc (.cells #[.int .i64 0, .int .i64 0, .int .i64 0, .slice none 0 0, .slice none 0 0] 25)).cell? ⟨p, 0, none⟩ = some (.int .i64 n) := Bx.cell (Bx.alloc h _) 0
  clear h e1
  go_enter Tryz.func23, Tryz.ntmps23
  go_wp2_with fail
  refine (knows_any (Bx.alloc (unhide H) _)).mono ?_
  rw [unhide H1]
  rintro e w1 ⟨rfl, rfl⟩
  go_wp2
  exact bodyPost_ret (v := .tuple #[.agg #[.int .i64 2, .int .i64 0, .int .i64 (n - 1), .slice none 0 0, .slice none 0 0], .bool true]) (by simp [results, Tryz.results23, go_sem]) rfl ⟨rfl, hide ((Fr.refl _ _).alloc _)⟩

theorem ack_none {w : World} {p : Nat} {n : Int} (h : RV w p n) (hn : n ≤ 0) : Calls Tryz.prog 23 #[.pointer (some ⟨p, 0, none⟩)] w fun e w' => e = .returned (.tuple #[.agg #[.int .i64 0, .int .i64 0, .int .i64 0, .slice none 0 0, .slice none 0 0], .bool false]) ∧ Hid (Fr (fun _ => False) w w') := by
  have H := hide h
  have e1 : decide (0 < n) = false := by simp; omega
  have H1 := hide e1
  have hlt := h.lt
  clear h e1
  go_enter Tryz.func23, Tryz.ntmps23
  go_wp2_with fail
  refine (knows_any (Bx.alloc (unhide H) _)).mono ?_
  rw [unhide H1]
  rintro e w1 ⟨rfl, rfl⟩
  go_wp2
  exact bodyPost_ret (v := .tuple #[.agg #[.int .i64 0, .int .i64 0, .int .i64 0, .slice none 0 0, .slice none 0 0], .bool false]) (by simp [results, Tryz.results23, go_sem]) rfl ⟨rfl, hide ((Fr.refl _ _).alloc _)⟩

end Go.Proofs.YtabhfeocelljdaaGreatDoor

