/- The contracts of filling and of the words' bytes. -/
import Derived.Test.YtgklgbomfipagaaDoorH4
namespace Go.Proofs.YtgklgbomfipagaaDoor
open Go.RowKit

theorem be8_length (n : Nat) : (be8 n).length = 8 := rfl
theorem be4_length (n : Nat) : (be4 n).length = 4 := rfl
theorem fill_length (n : Nat) : (fill n).length = 72 - (n + 8) % 64 := by
  simp [fill, be8]; omega

/-- What lies in a filling under way: its first byte, and the last i. -/
def fillF (n L i j : Nat) : Int := if j = 0 then 128 else if L ≤ j + i then ((8 * n / 2 ^ (8 * (L - 1 - j)) % 256 : Nat) : Int) else 0

theorem fillF_next (n L i j : Nat) (hi : i < 8) (hL : 9 ≤ L) (hj : j < L) : fillF n L (i + 1) j = if j = L - 1 - i then ((8 * n / 2 ^ (8 * i) % 256 : Nat) : Int) else fillF n L i j := by
  unfold fillF
  by_cases h0 : j = 0
  · rw [if_pos h0, if_neg (by omega), if_pos h0]
  · rw [if_neg h0, if_neg h0]
    by_cases e : j = L - 1 - i
    · rw [if_pos e, if_pos (by omega), show L - 1 - j = i by omega]
    · rw [if_neg e]
      by_cases h2 : L ≤ j + i
      · rw [if_pos h2, if_pos (by omega)]
      · rw [if_neg h2, if_neg (by omega)]

theorem be8_get (n k : Nat) (hk : k < 8) : (be8 n)[7 - k]? = some (UInt8.ofNat (n / 2 ^ (8 * k))) := by
  match k, hk with
  | 0, _ => simp [be8]
  | 1, _ => simp [be8]
  | 2, _ => simp [be8]
  | 3, _ => simp [be8]
  | 4, _ => simp [be8]
  | 5, _ => simp [be8]
  | 6, _ => simp [be8]
  | 7, _ => simp [be8]

theorem fill_get (n j : Nat) (hj : j < (fill n).length) : ((fill n)[j].toNat : Int) = fillF n (fill n).length 8 j := by
  have hl := fill_length n
  unfold fillF
  by_cases h0 : j = 0
  · subst h0; rw [if_pos rfl]; rfl
  · rw [if_neg h0]
    have e : (fill n)[j]? = some (fill n)[j] := List.getElem?_eq_getElem hj
    obtain ⟨k, rfl⟩ : ∃ k, j = k + 1 := ⟨j - 1, by omega⟩
    have e2 : (fill n)[k + 1]? = (List.replicate (63 - (n + 8) % 64) (0 : UInt8) ++ be8 (8 * n))[k]? := by
      unfold fill; rw [List.getElem?_cons_succ]
    rw [e2] at e
    by_cases h1 : k < 63 - (n + 8) % 64
    · rw [List.getElem?_append_left (by simpa using h1), List.getElem?_replicate, if_pos h1] at e
      rw [if_neg (by omega), ← Option.some.inj e]; rfl
    · rw [List.getElem?_append_right (by simpa using h1), List.length_replicate] at e
      have hm : k - (63 - (n + 8) % 64) = 7 - ((fill n).length - 1 - (k + 1)) := by omega
      rw [hm, be8_get _ _ (by omega)] at e
      rw [if_pos (by omega), ← Option.some.inj e, UInt8.toNat_ofNat']

def Filling (w wr : World) (g n L i : Nat) : Prop := Fr (fun _ => False) w wr ∧ w.heap.size = g ∧ ∀ j, j < L → wr.cell? ⟨g, j, none⟩ = some (.int .u8 (fillF n L i j)) ∧ wr.frozen? ⟨g, j, none⟩ = false

theorem Filling.next {w wr : World} {g n L i : Nat} (h : Filling w wr g n L i) (hi : i < 8) (hL : 9 ≤ L) : Filling w (wr.setCell ⟨g, L - 1 - i, none⟩ (.int .u8 (8 * n / 2 ^ (8 * i) % 256 : Nat))) g n L (i + 1) := by
  obtain ⟨h1, h2, h3⟩ := h
  refine ⟨h1.setCell (p := ⟨g, L - 1 - i, none⟩) (fun t => absurd t (by simp only []; omega)) _, h2, fun j hj => ⟨?_, by rw [World.frozen?_setCell]; exact (h3 j hj).2⟩⟩
  rw [fillF_next n L i j hi hL hj]
  by_cases e : j = L - 1 - i
  · subst e
    rw [if_pos rfl, World.cell?_setCell_same _ _ _ (h3 (L - 1 - i) hj).1]
  · rw [if_neg e, World.cell?_setCell_other _ _ _ _ (fun t => e (by injection t with _ t; exact t.symm))]
    exact (h3 j hj).1

set_option maxHeartbeats 1000000 in
theorem filling_any (w : World) (n : Nat) (hn : n ≤ 1125899906842624) : Calls Tryd.prog 39 #[.int .i64 n] w fun e w' => ∃ v, e = .returned v ∧ New w (fill n) v w' := by
  obtain ⟨L, hL⟩ : ∃ L, L = (fill n).length := ⟨_, rfl⟩
  have hl := fill_length n
  rw [← hL] at hl
  have HL := hide hL
  have hmk := fun w' => run_make_row' (P := Tryd.prog) 22 5 (.int .u8 0) 1 Tryd.underlying22 Tryd.info5 rfl .i64 .i64 L (by omega) (by omega) w'
  have hcast : 1 + (63 - ((n : Int) + 8) % 64) + 8 = (L : Int) := by omega
  have hLb : 9 ≤ L ∧ L ≤ 72 := by omega
  have HH := hide hl
  clear hL hl
  have hmj : ∀ j, j < L → (madeCells #[Value.int .u8 0] L)[j]? = some (.int .u8 0) := fun j hj => by simp [madeCells, hj, Nat.mod_one]
  have hm0 := hmj 0 (by omega)
  have hsz : (madeCells #[Value.int .u8 0] L).size = L := by simp [madeCells]
  have hM : Filling w (w.alloc (.cells ((madeCells #[.int .u8 0] L).setIfInBounds 0 (.int .u8 128)) 5)) w.heap.size n L 0 := by
    refine ⟨(Fr.refl _ w).alloc _, rfl, fun j hj => ⟨?_, World.frozen?_alloc_new _ _ _ _⟩⟩
    rw [World.cell?_alloc_new, Array.getElem?_setIfInBounds]
    unfold fillF
    by_cases e : j = 0
    · subst e; rw [if_pos rfl, if_pos rfl, if_pos (by rw [hsz]; omega)]
    · rw [if_neg (fun t => e t.symm), if_neg e, if_neg (by omega), hmj j hj]
  have HM := hide hM
  clear hM hmj hsz
  go_enter Tryd.func39, Tryd.ntmps39
  go_wp2
  clear hmk hcast hm0
  generalize (w.alloc (.cells ((madeCells #[.int .u8 0] L).setIfInBounds 0 (.int .u8 128)) 5)) = w0 at *
  obtain ⟨g, hg⟩ : ∃ g, w.heap.size = g := ⟨_, rfl⟩
  rw [hg] at HM ⊢
  go_loopw [6, 20] (fun _ iv wr => ∃ i : Nat, i ≤ 8 ∧ iv = .int .i64 i ∧ Hid (Filling w wr g n L i)) (fun _ iv _ => 8 - (intOf iv).toNat)
  case atStart => exact ⟨0, Nat.zero_le _, rfl, unhide HM⟩
  case round =>
    obtain ⟨i, hi, rfl, HS⟩ := hrel
    obtain ⟨hL9, hL72⟩ := hLb
    by_cases hlt : i < 8
    · have ci := ((unhide HS).2.2 (L - 1 - i) (by omega)).1
      have fi := ((unhide HS).2.2 (L - 1 - i) (by omega)).2
      have HN := hide ((unhide HS).next hlt hL9)
      have hv : ((8 * n / 2 ^ (8 * i) % 256 : Nat) : Int) = (n : Int) * 8 / 2 ^ (8 * i) % 256 := by
        rw [Int.natCast_emod, Int.natCast_ediv, Int.natCast_pow, Nat.mul_comm, Int.natCast_mul]; rfl
      rw [hv] at HN
      clear hv
      go_wp2
      exact ⟨⟨i + 1, by omega, by go_num, unhide HN⟩, by simp [intOf]; omega⟩
    · obtain rfl : i = 8 := by omega
      go_wp2
      go_ret
      obtain ⟨k1, k2, k3⟩ := unhide HS
      have hL := unhide HL
      have hc : ∀ j (hj : j < (fill n).length), wr.cell? ⟨g, j, none⟩ = some (.int .u8 ((fill n)[j].toNat)) := fun j hj => by
        rw [(k3 j (by omega)).1, fill_get n j hj, hL]
      refine ⟨_, rfl, g, ?_, k1, by omega⟩
      rw [hL]
      exact ⟨⟨_, _, rfl, Nat.le_refl _, by simp only [maxLen]; omega, fun _ => rfl, fun j hj => ⟨by rw [hc j hj]; rfl, (k3 j (by omega)).2⟩⟩, hc⟩

theorem wbytes_length (f : Nat → Nat) (i : Nat) : (wbytes f i).length = 4 * i := by
  induction i with
  | zero => rfl
  | succ i ih => simp [wbytes, be4, ih]; omega

theorem be4_cells (n : Nat) (hn : n < 4294967296) : (bytesV (be4 n)).toArray = #[Value.int .u8 ((n : Int) / 16777216), .int .u8 ((n : Int) / 65536 % 256), .int .u8 ((n : Int) / 256 % 256), .int .u8 ((n : Int) % 256)] := by
  simp [bytesV, be4]
  omega

theorem bat_lit (w : World) (bs : List UInt8) (t : TypeId) (fr : Nat × Nat) (hm : bs.length ≤ 140737488355328) : BAt (w.alloc (.cells (bytesV bs).toArray t fr)) (some ⟨w.heap.size, 0, none⟩) bs.length bs := by
  refine ⟨fun e => (by cases e), fun _ => ⟨_, _, rfl, fun j hj => ?_⟩, hm⟩
  rw [Nat.zero_add, cell_of_row _ _ _ _ t fr (heap_alloc_new w _), List.getElem?_toArray, bytesV_get _ _ hj]

set_option maxHeartbeats 1000000 in
theorem bytes_any (w : World) (f : Nat → Nat) (hf : ∀ j, f j < 4294967296) : Calls Tryd.prog 40 #[.agg (arr 8 (wv f))] w fun e w' => ∃ v, e = .returned v ∧ New w (wbytes f 8) v w' := by
  obtain ⟨i0, hi, hz0, hz1, hz2⟩ := info_parts Tryd.info5
  have hmk : ∀ w, (Instr.makeSlice 22 (.int .i64 0) (.int .i64 32)).run Tryd.prog w = .ok (.slice (some ⟨w.heap.size, 0, none⟩) 0 32) (w.alloc (.cells (madeCells #[.int .u8 0] 32) 5)) := by
    intro w
    have := run_make (P := Tryd.prog) w 22 5 i0 (.int .u8 0) Tryd.underlying22 hi hz0 .i64 .i64 0 32 (by omega) (by omega) (by rw [hz2]; omega) (by omega)
    rw [hz1] at this
    exact this
  have hM : New w [] (.slice (some ⟨w.heap.size + 1, 0, none⟩) 0 32) ((w.alloc (.cells (arr 8 (wv f)) 51)).alloc (.cells (madeCells #[.int .u8 0] 32) 5)) := by
    have e1 : (w.alloc (.cells (arr 8 (wv f)) 51)).heap.size = w.heap.size + 1 := by simp
    refine ⟨w.heap.size + 1, Row.empty (by simp [maxLen]) (fun j hj => ?_), ((Fr.refl _ w).alloc _).alloc _, by omega⟩
    rw [← e1]
    refine ⟨?_, World.frozen?_alloc_new _ _ _ _⟩
    rw [World.cell?_alloc_new, Array.getElem?_eq_getElem (by rw [size_madeCells]; exact hj)]; rfl
  have hb2 := (Blk.new w 51 8 (wv f)).alloc (.cells (madeCells #[.int .u8 0] 32) 5)
  have HM := hide (And.intro hM hb2)
  have HI := hide hi
  have HF := hide hf
  clear hi hf hM hb2
  go_enter Tryd.func40, Tryd.ntmps40
  go_wp2_with (refine wpList_load_row rfl 51 (.tmp 1) rfl w.heap.size rfl 51 (arr 8 (wv f)) (0, 0) _ (unhide HM).2 Tryd.underlying51 rfl (size51 _) ?nx)
  clear hmk
  generalize ((w.alloc (.cells (arr 8 (wv f)) 51)).alloc (.cells (madeCells #[.int .u8 0] 32) 5)) = w0 at *
  go_loopw [3, 5, 8] (fun bv _ iv wr => ∃ i : Nat, i ≤ 8 ∧ iv = .int .i64 i ∧ ∃ ao cap l, bv = .slice ao l cap ∧ l = 4 * i ∧ Hid (New w (wbytes f i) (.slice ao l cap) wr)) (fun _ _ iv _ => 8 - (intOf iv).toNat)
  case atStart => exact ⟨0, Nat.zero_le _, rfl, _, _, _, rfl, rfl, (unhide HM).1⟩
  case round =>
    obtain ⟨i, hi8, rfl, ao, cap, l, rfl, hl, HS⟩ := hrel
    by_cases hlt : i < 8
    · have hix := fun w => run_index_8 w f i hlt
      have hfi := unhide HF i
      obtain ⟨g, k1, k2, k3⟩ := unhide HS
      obtain ⟨x, hx⟩ : ∃ x, f i = x := ⟨_, rfl⟩
      have hn : wbytes f (i + 1) = wbytes f i ++ be4 x := by rw [← hx]; rfl
      rw [hx] at hfi hix
      have hbe := be4_cells x hfi
      have hR : (wbytes f i).length = l := by rw [wbytes_length, hl]
      generalize wbytes f i = R at *
      subst hR
      have HK := hide (And.intro k1 (And.intro k2 k3))
      have HN := hide hn
      have HL := hide hl
      have HBE := hide hbe
      have hfit : R.length + 4 ≤ 140737488355328 := by omega
      clear k1 k2 k3 hn hl hx hbe HS
      go_wp2_with (at_builtin; refine wpList_append_row _ rfl (.tmp 11) (.tmp 23) 22 22 rfl 5 i0 Tryd.underlying22 (unhide HI) hz0 hz1 hz2 (ao := ao) (cap := cap) (g := g) (bs := R) rfl ((unhide HK).1.stay (fun hx => Below.heap_alloc wr _ _ hx)) _ (be4 x) rfl ?hs hfit ?nx2)
      case hs =>
        rw [← unhide HBE]
        exact src_slice Tryd.underlying22 _ _ 4 (be4 x) (bat_lit wr (be4 x) 5 (0, 0) (by simp [be4])).2.1
      intro ao3 cap3 w3 g3 k1 k2 k3
      obtain ⟨m1, m2, m3⟩ := unhide HK
      have hF3 := (m2.alloc (.cells #[.int .u8 ((x : Int) / 16777216), .int .u8 ((x : Int) / 65536 % 256), .int .u8 ((x : Int) / 256 % 256), .int .u8 ((x : Int) % 256)] 5)).trans k2 (fun i hi t => by omega)
      have hg3 : w.heap.size ≤ g3 := by
        have h9 := m2.size
        rcases k3 with ⟨e1, _⟩ | k3
        · omega
        · have h8 : (wr.alloc (.cells #[.int .u8 ((x : Int) / 16777216), .int .u8 ((x : Int) / 65536 % 256), .int .u8 ((x : Int) / 256 % 256), .int .u8 ((x : Int) % 256)] 5)).heap.size = wr.heap.size + 1 := by simp
          omega
      have HN3 := hide (And.intro k1 (And.intro hF3 hg3))
      clear k1 k2 k3 m1 m2 m3 hF3 hg3
      rw [be4_length] at HN3 ⊢
      go_wp2
      refine ⟨⟨i + 1, by omega, by go_num, ao3, cap3, R.length + 4, rfl, by have := unhide HL; omega, g3, ?_⟩, by simp [intOf]; omega⟩
      rw [unhide HN]
      exact unhide HN3
    · obtain rfl : i = 8 := by omega
      go_wp2
      go_ret
      exact ⟨_, rfl, unhide HS⟩

end Go.Proofs.YtgklgbomfipagaaDoor
