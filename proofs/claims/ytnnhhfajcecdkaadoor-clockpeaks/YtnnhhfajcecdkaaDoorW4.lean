/- When the peak is, of any bands and any time; what is handed in stays (the walk of ClockPeaks). -/
import Derived.Test.YtnnhhfajcecdkaaDoorS6
import Derived.Test.YtnnhhfajcecdkaaDoorS2
import Derived.Laws.MakeOwn
namespace Go.Proofs.YtnnhhfajcecdkaaDoor
open Go.RowKit

theorem info33 : (Tryd.prog.info? 33).map (fun i => (i.zero, i.size, i.bytes)) = some (some (.agg #[.int .i64 0, .int .i64 0]), 2, 16) := by kernel_rfl

/-- Bands as cells. -/
def bandsV (l : List (Int × Int)) : List Value := l.flatMap fun b => [Value.int .i64 b.1, Value.int .i64 b.2]

theorem bandsV_length (l : List (Int × Int)) : (bandsV l).length = l.length * 2 := by
  induction l with
  | nil => rfl
  | cons b r ih =>
    show ([Value.int .i64 b.1, Value.int .i64 b.2] ++ bandsV r).length = _
    rw [List.length_append, ih]
    simp; omega

theorem bandsV_one (l : List (Int × Int)) : ∀ u ∈ bandsV l, u.oneCell' = true := by
  intro u hu
  obtain ⟨b, _, hb⟩ := List.mem_flatMap.1 hu
  simp only [List.mem_cons, List.not_mem_nil, or_false] at hb
  rcases hb with rfl | rfl <;> rfl

theorem bandsV_get : ∀ (l : List (Int × Int)) (j : Nat) (hj : j < l.length), (bandsV l)[j * 2]? = some (.int .i64 l[j].1) ∧ (bandsV l)[j * 2 + 1]? = some (.int .i64 l[j].2)
  | [], j, hj => absurd hj (by simp)
  | b :: r, 0, _ => ⟨rfl, rfl⟩
  | b :: r, j + 1, hj => by
    have ih := bandsV_get r j (by simpa using hj)
    have e : bandsV (b :: r) = Value.int .i64 b.1 :: Value.int .i64 b.2 :: bandsV r := rfl
    rw [e, show (j + 1) * 2 = j * 2 + 1 + 1 by omega, show j * 2 + 1 + 1 + 1 = (j * 2 + 1) + 1 + 1 by omega]
    simpa using ih

theorem PAt.src {w : World} {ao : Option Addr} {l : List (Int × Int)} (h : PAt w ao l) (cap : Nat) : Src Tryd.prog 2 31 (.slice ao l.length cap) l.length (bandsV l) w := by
  by_cases hm : 0 < l.length
  · obtain ⟨b, off, rfl, hcs⟩ := h hm
    refine Src.ofSlice w Tryd.underlying31 ⟨b, off, none⟩ l.length cap (bandsV l) (bandsV_length l) (fun j u hj => ?_) (bandsV_one l)
    have hjl : j < l.length * 2 := by
      have := (List.getElem?_eq_some_iff.1 hj).1
      rwa [bandsV_length] at this
    rw [Addr.add_lit]
    have hk : j / 2 < l.length := by omega
    have g := bandsV_get l (j / 2) hk
    have c := hcs (j / 2) hk
    rcases Nat.mod_two_eq_zero_or_one j with h0 | h1
    · have e : j / 2 * 2 = j := by omega
      rw [e] at g c
      rw [c.1, ← g.1]; exact hj
    · have e : j / 2 * 2 + 1 = j := by omega
      rw [e] at g
      rw [Nat.add_assoc, e] at c
      rw [c.2, ← g.2]; exact hj
  · have : l = [] := List.eq_nil_of_length_eq_zero (by omega)
    subst this
    cases ao with
    | none => exact Src.ofNil w Tryd.underlying31 cap
    | some b => exact Src.ofSlice w Tryd.underlying31 b 0 cap [] (by simp) (fun j u hj => by simp at hj) (fun u hu => by cases hu)

/-- One append, as one step of a list of operations. -/
theorem wpList_append_run {P : Program} {w w' : World} {ops : Array Oper} {rest : List Oper} {o : Oper} {a : Act} {Q : Exit → Act → World → Prop} (hgd : o.guard = none) (s x : Operand) (t tx : TypeId)
    (ho : o.op = .call { callee := .builtin .append, args := #[s, x], argTypes := #[t, tx] }) (V X R : Value) (hv : a.eval s = V) (hx : a.eval x = X)
    (hrun : (Builtin.append_ #[t, tx] o.type #[V, X]).run P w = .ok R w') (hK : wpList P ops Q rest (a.put o.dst R) w') : wpList P ops Q (o :: rest) a w := by
  refine wpList_plain hgd fun K hK' => ?_
  unfold Oper.wp
  simp [execOp, ho, resolve, invoke, builtin, hv, hx, hrun, Result.andThen]
  exact hK' _ _ hK

/-- The copy of the bands, one more behind them. -/
theorem fill (w : World) (ao : Option Addr) (cap : Nat) (l : List (Int × Int)) (h : PAt w ao l) (hl : (l.length + 1) * 16 ≤ 140737488355328) :
    ∃ Wm Wa Wb, (Instr.makeSlice 31 (.int .i64 0) (.int .i64 ((l.length : Int) + 1))).run Tryd.prog w = .ok (.slice (some ⟨w.heap.size, 0, none⟩) 0 (l.length + 1)) Wm ∧
      (∀ ty, (Builtin.append_ #[31, 31] ty #[.slice (some ⟨w.heap.size, 0, none⟩) 0 (l.length + 1), .slice ao l.length cap]).run Tryd.prog Wm = .ok (.slice (some ⟨w.heap.size, 0, none⟩) l.length (l.length + 1)) Wa) ∧
      (∀ ty, (Builtin.append_ #[31, 31] ty #[.slice (some ⟨w.heap.size, 0, none⟩) l.length (l.length + 1), .slice (some ⟨Wa.heap.size, 0, none⟩) 1 1]).run Tryd.prog (Wa.alloc (.cells #[.int .i64 (-7), .int .i64 0] 33)) = .ok (.slice (some ⟨w.heap.size, 0, none⟩) (l.length + 1) (l.length + 1)) Wb) ∧
      Fr (fun _ => False) w Wb ∧ PAt Wb (some ⟨w.heap.size, 0, none⟩) l ∧ Wb.cell? ⟨w.heap.size, l.length * 2, none⟩ = some (.int .i64 (-7)) := by
  obtain ⟨i, hi, hzz⟩ := Option.map_eq_some_iff.1 info33
  simp only [Prod.mk.injEq] at hzz
  obtain ⟨hz0, hz1, hz2⟩ := hzz
  obtain ⟨n, hn⟩ : ∃ n, l.length = n := ⟨_, rfl⟩
  have hmk := run_make (P := Tryd.prog) w 31 33 i _ Tryd.underlying31 hi hz0 .i64 .i64 0 ((n : Int) + 1) (by omega) (by omega) (by rw [hz2]; omega) (by omega)
  rw [hz1, show ((n : Int) + 1).toNat = n + 1 by omega, show (0 : Int).toNat = 0 from rfl] at hmk
  obtain ⟨C, hC⟩ : ∃ C, madeCells (Value.agg #[.int .i64 0, .int .i64 0]).cells ((n + 1) * 2) = C := ⟨_, rfl⟩
  have hCs : C.size = (n + 1) * 2 := by rw [← hC]; exact size_madeCells _ _
  rw [hC] at hmk
  have m1 : ∀ j, j < (n + 1) * 2 → ((w.alloc (.cells C 33)).cell? ⟨w.heap.size, j, none⟩).isSome = true := fun j hj => by
    rw [World.cell?_alloc_new, Array.getElem?_eq_getElem (by omega)]; rfl
  have m2 : ∀ j, (w.alloc (.cells C 33)).frozen? ⟨w.heap.size, j, none⟩ = false := fun j => World.frozen?_alloc_new _ _ _ _
  have fm : Fr (fun _ => False) w (w.alloc (.cells C 33)) := (Fr.refl _ w).alloc _
  have hbl := bandsV_length l
  rw [hn] at hbl
  have hs1 := (h.frame fm).src cap
  rw [← hz1, hn] at hs1
  have ha := fun ty => run_append_room_src (P := Tryd.prog) (w.alloc (.cells C 33)) 31 31 ty 33 i Tryd.underlying31 hi w.heap.size 0 0 (n + 1) (.slice ao n cap) n (bandsV l) hs1 (by omega)
    (fun j hj => by rw [hz1]; exact m1 _ (by omega)) (fun j hj => m2 _)
  rw [hz1, show 0 + 0 * 2 = 0 from rfl, Nat.zero_add] at ha
  obtain ⟨Wa, hWa⟩ : ∃ Wa, (w.alloc (.cells C 33)).setCells w.heap.size 0 (bandsV l) = Wa := ⟨_, rfl⟩
  rw [hWa] at ha
  have a1 : ∀ j, j < (n + 1) * 2 → (Wa.cell? ⟨w.heap.size, j, none⟩).isSome = true := fun j hj => by
    by_cases hj2 : j < n * 2
    · have := World.cell?_setCells_in w.heap.size (bandsV l) 0 (w.alloc (.cells C 33)) (fun k hk => m1 _ (by omega)) j (by omega)
      rw [Nat.zero_add, hWa] at this
      rw [this]; rfl
    · rw [← hWa, World.cell?_setCells_out w.heap.size _ _ _ _ (fun _ _ => by right; show 0 + (bandsV l).length ≤ j; omega)]
      exact m1 j hj
  have a2 : ∀ j, Wa.frozen? ⟨w.heap.size, j, none⟩ = false := fun j => by rw [← hWa, World.frozen?_setCells]; exact m2 j
  have a3 : ∀ j (hj : j < l.length), Wa.cell? ⟨w.heap.size, j * 2, none⟩ = some (.int .i64 l[j].1) ∧ Wa.cell? ⟨w.heap.size, j * 2 + 1, none⟩ = some (.int .i64 l[j].2) := fun j hj => by
    have g := bandsV_get l j hj
    have c0 := World.cell?_setCells_in w.heap.size (bandsV l) 0 (w.alloc (.cells C 33)) (fun k hk => m1 _ (by omega)) (j * 2) (by omega)
    have c1 := World.cell?_setCells_in w.heap.size (bandsV l) 0 (w.alloc (.cells C 33)) (fun k hk => m1 _ (by omega)) (j * 2 + 1) (by omega)
    rw [Nat.zero_add, hWa] at c0 c1
    rw [List.getElem?_eq_getElem (by omega)] at g
    rw [List.getElem?_eq_getElem (by omega)] at g
    exact ⟨by rw [c0]; exact g.1, by rw [c1]; exact g.2⟩
  have fa : Fr (fun _ => False) w Wa := by
    rw [← hWa]
    exact Fr.setCells (S := fun _ => False) w.heap.size (fun h => absurd h (Nat.lt_irrefl _)) _ _ _ fm
  have hlt : w.heap.size < Wa.heap.size := by
    obtain ⟨u, hu⟩ := Option.isSome_iff_exists.1 (a1 0 (by omega))
    exact World.block_lt_of_cell? _ _ hu
  have fx : Fr (fun _ => False) Wa (Wa.alloc (.cells #[.int .i64 (-7), .int .i64 0] 33)) := (Fr.refl _ Wa).alloc _
  have x1 : ∀ j, (Wa.alloc (.cells #[.int .i64 (-7), .int .i64 0] 33)).cell? ⟨w.heap.size, j, none⟩ = Wa.cell? ⟨w.heap.size, j, none⟩ := fun j => fx.cell hlt (fun t => t)
  have x2 : ∀ j, (Wa.alloc (.cells #[.int .i64 (-7), .int .i64 0] 33)).frozen? ⟨w.heap.size, j, none⟩ = Wa.frozen? ⟨w.heap.size, j, none⟩ := fun j => fx.frozen hlt (fun t => t)
  have hs2 : Src Tryd.prog i.size 31 (.slice (some ⟨Wa.heap.size, 0, none⟩) 1 1) 1 [.int .i64 (-7), .int .i64 0] (Wa.alloc (.cells #[.int .i64 (-7), .int .i64 0] 33)) := by
    rw [hz1]
    refine Src.ofSlice _ Tryd.underlying31 ⟨Wa.heap.size, 0, none⟩ 1 1 _ rfl (fun j u hj => ?_) (fun u hu => ?_)
    · rw [Addr.add_lit, Nat.zero_add, World.cell?_alloc_new]
      match j, hj with
      | 0, hj => exact hj
      | 1, hj => exact hj
      | j + 2, hj => simp at hj
    · simp only [List.mem_cons, List.not_mem_nil, or_false] at hu
      rcases hu with rfl | rfl <;> rfl
  have hb := fun ty => run_append_room_src (P := Tryd.prog) (Wa.alloc (.cells #[.int .i64 (-7), .int .i64 0] 33)) 31 31 ty 33 i Tryd.underlying31 hi w.heap.size 0 n (n + 1) _ 1 _ hs2 (by omega)
    (fun j hj => by rw [hz1, x1]; simp at hj; exact a1 _ (by omega)) (fun j hj => by rw [x2]; exact a2 _)
  rw [hz1, Nat.zero_add] at hb
  rw [hn]
  have bi := World.cell?_setCells_in w.heap.size [.int .i64 (-7), .int .i64 0] (n * 2) (Wa.alloc (.cells #[.int .i64 (-7), .int .i64 0] 33)) (fun k hk => by rw [x1]; simp at hk; exact a1 _ (by omega))
  refine ⟨_, Wa, _, hmk, ha, hb, ?_, ?_, ?_⟩
  · exact Fr.setCells (S := fun _ => False) w.heap.size (fun h => absurd h (Nat.lt_irrefl _)) _ _ _ (fa.trans fx (fun _ _ t => t))
  · intro _
    refine ⟨_, _, rfl, fun j hj => ?_⟩
    have o0 := World.cell?_setCells_out w.heap.size [.int .i64 (-7), .int .i64 0] (n * 2) (Wa.alloc (.cells #[.int .i64 (-7), .int .i64 0] 33)) ⟨w.heap.size, j * 2, none⟩ (fun _ _ => by left; show j * 2 < n * 2; omega)
    have o1 := World.cell?_setCells_out w.heap.size [.int .i64 (-7), .int .i64 0] (n * 2) (Wa.alloc (.cells #[.int .i64 (-7), .int .i64 0] 33)) ⟨w.heap.size, j * 2 + 1, none⟩ (fun _ _ => by left; show j * 2 + 1 < n * 2; omega)
    rw [Nat.zero_add, o0, o1, x1, x1]
    exact a3 j hj
  · exact bi 0 (by simp)

theorem peaks_walk (w : World) (hE : Env w) (ao : Option Addr) (cap : Nat) (l : List (Int × Int)) (h : PAt w ao l) (hl : (l.length + 1) * 16 ≤ 140737488355328) (t : Int) :
    Calls Tryd.prog 4 #[.slice ao l.length cap, .int .i64 t] w fun e w' => e = .returned (.bool true) ∧ Fr (fun _ => False) w w' := by
  have R0 := awake_any w hE
  have HK := hide (fun (w' : World) (hf : Fr (fun _ => False) w w') => fill w' ao cap l (h.frame hf) hl)
  have HPk := hide (fun (w' : World) (ao' : Option Addr) (cap' : Nat) (hp : PAt w' ao' l) => peak_any w' ao' cap' l hp (by omega) t)
  have HPr := hide (fun (w' : World) (hf : Fr (fun _ => False) w w') => rpeak_any w' ao cap l (h.frame hf) (by omega) t)
  have HA := hide h
  generalize peak l t = pk at HPk HPr
  clear hE h
  go_enter Tryd.func4, Tryd.ntmps4
  go_wp2_with fail
  refine R0.mono ?_
  rintro e w1 ⟨rfl, hF1⟩
  obtain ⟨Wm, Wa, Wb, hmk, ha, hb, fb, pb, cb⟩ := unhide HK w1 hF1
  have HF1 := hide (hF1.trans fb (fun _ _ t => t))
  have HB := hide (And.intro pb cb)
  have H1 := hide ha
  have H2 := hide hb
  clear R0 hF1 HK fb pb cb ha hb
  obtain ⟨N, hN⟩ : ∃ N, w1.heap.size = N := ⟨_, rfl⟩
  rw [hN] at hmk HB H1 H2
  clear hN
  go_wp2_with (at_builtin; first | refine wpList_append_run rfl (.tmp 14) (.tmp 15) 31 31 rfl _ _ _ rfl rfl (unhide H1 _) ?_ | refine wpList_append_run rfl (.tmp 16) (.tmp 18) 31 31 rfl _ _ _ rfl rfl (unhide H2 _) ?_)
  clear hmk H1 H2
  refine (unhide HPk Wb _ _ (unhide HB).1).mono ?_
  rintro e w2 ⟨rfl, hF2⟩
  have HF2 := hide ((unhide HF1).trans hF2 (fun _ _ t => t))
  have hc := (hF2.cell (a := ⟨N, l.length * 2, none⟩) (World.block_lt_of_cell? _ _ (unhide HB).2) (fun t => t)).trans (unhide HB).2
  have HP2 := hide ((unhide HB).1.frame hF2)
  clear hF2 HF1 HB HPk
  go_wp2
  go_loopw [8, 9] (fun kv iv wr => ∃ (i : Nat), i ≤ l.length ∧ iv = .int .i64 i ∧ kv = .bool true ∧ Hid (Fr (fun _ => False) w2 wr)) (fun _ iv _ => l.length - (intOf iv).toNat)
  case atStart => exact ⟨0, Nat.zero_le _, rfl, rfl, Fr.refl _ _⟩
  case round =>
    obtain ⟨i, hi, rfl, rfl, HI⟩ := hrel
    by_cases hil : i < l.length
    · obtain ⟨b, off, rfl, hcs⟩ := ((unhide HA).frame ((unhide HF2).trans (unhide HI) (fun _ _ t => t))) (by omega)
      obtain ⟨b', off', hab, hcs'⟩ := ((unhide HP2).frame (unhide HI)) (by omega)
      injection hab with hab
      injection hab with hab1 hab2
      subst hab1 hab2
      have c0 := (hcs i hil).1
      have c1 := (hcs i hil).2
      have d0 := (hcs' i hil).1
      have d1 := (hcs' i hil).2
      rw [Nat.zero_add] at d0 d1
      generalize l[i] = x at *
      obtain ⟨x0, x1⟩ := x
      clear hcs hcs' hc
      go_wp2
      go_quiet (fail)
      go_wp2
      exact ⟨⟨i + 1, by omega, by go_num, (by first | rfl | trivial), (unhide HI).drewN _⟩, by simp [intOf]; omega⟩
    · obtain rfl : i = l.length := by omega
      have HF3 := hide ((unhide HF2).trans (unhide HI) (fun _ _ t => t))
      have R := unhide HPr wr (unhide HF3)
      clear HI HF2 HP2 HPr HA hc
      go_wp2_with fail
      refine R.mono ?_
      rintro e w3 ⟨rfl, rfl⟩
      go_wp2
      go_ret
      exact ⟨by first | rfl | simp, unhide HF3⟩

end Go.Proofs.YtnnhhfajcecdkaaDoor
