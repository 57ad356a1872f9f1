import Derived.Test.YtabhfeocelljdaaGreatDoorWX
import Derived.Test.YtabhfeocelljdaaGreatDoorSS2
import Derived.Test.YtabhfeocelljdaaGreatDoorSS1
import Derived.Test.YtabhfeocelljdaaGreatDoorZHA
import Derived.Deep.MidRow
import Derived.Laws.CopyRow
import Derived.Deep.RegionLaw
import Derived.Deep.RegionWith
/- Bytes in memory; the hash in memory; the contracts of New, Clone, Len. -/
namespace Go.Proofs.YtabhfeocelljdaaGreatDoor
open Go.RowKit

/-- A hash's cells: eight words, a block, how many bytes. -/
def hcell (f : Nat → Nat) (blk : Nat → UInt8) (n j : Nat) : Value := if j < 8 then .int .u32 (f j) else if j < 72 then .int .u8 (blk (j - 8)).toNat else .int .i64 n

theorem hcell_one (f : Nat → Nat) (blk : Nat → UInt8) (n j : Nat) : (hcell f blk n j).oneCell' = true := by
  unfold hcell
  split
  · rfl
  · split <;> rfl

/-- A hash that has taken bytes. -/
def HAt (w : World) (p : Nat) (bs : List UInt8) : Prop := ∃ blk, Blk w p 137 73 (hcell (absorb bs (bs.length / 64)) blk bs.length) ∧ ∀ j, j < bs.length % 64 → blk j = bs.getD (64 * (bs.length / 64) + j) 0

theorem HAt.lt {w : World} {p : Nat} {bs : List UInt8} (h : HAt w p bs) : p < w.heap.size := by obtain ⟨_, h, _⟩ := h; exact h.lt
theorem HAt.frame {S : Nat → Prop} {w w' : World} {p : Nat} {bs : List UInt8} (h : HAt w p bs) (hF : Fr S w w') (hn : ¬ S p) : HAt w' p bs := by
  obtain ⟨blk, h1, h2⟩ := h
  exact ⟨blk, h1.frame hF hn, h2⟩
theorem HAt.later {w w' : World} {p : Nat} {bs : List UInt8} (h : HAt w p bs) (hF : Fr (fun _ => False) w w') : HAt w' p bs := h.frame hF (fun t => t)

/-- A new hash comes out. -/
def NewH (w : World) (bs : List UInt8) (p : Nat) (w' : World) : Prop := HAt w' p bs ∧ Fr (fun _ => False) w w' ∧ w.heap.size ≤ p

/-- An array's load out of the middle of a block. -/
theorem wpList_load_arr {P : Program} {ops : Array Oper} {rest : List Oper} {op : Oper} {a : Act} {w : World} {Q : Exit → Act → World → Prop} (hgd : op.guard = none) (ty : TypeId) (x : Operand) (ho : op.op = .load ty x)
    (b o : Nat) (hx : a.eval x = .pointer (some ⟨b, o, none⟩)) (n : Nat) (f : Nat → Value) (d : TypeDesc) (hc : ∀ j, j < n → w.cell? ⟨b, o + j, none⟩ = some (f j))
    (hu : P.underlying ty = some d) (hd : d.isRow = true) (hi : (P.info? ty).map (·.size) = some n)
    (h : wpList P ops Q rest (a.put op.dst (.agg (arr n f))) w) : wpList P ops Q (op :: rest) a w := by
  refine wpList_load_mid hgd ty x ho b o hx (arr n f).toList d (fun j v hv => ?_) hu hd (by rw [Array.length_toList, arr_size]; exact hi) (by rw [Array.toArray_toList]; exact h)
  rw [Array.getElem?_toList] at hv
  by_cases hj : j < n
  · rw [arr_get n f j hj] at hv
    rw [← hv]
    exact hc j hj
  · rw [Array.getElem?_eq_none (by rw [arr_size]; omega)] at hv
    cases hv

theorem built_hash : Tryz.prog.built 137 [(0, .agg (arr 8 (wv hw0)))] = some (arr 73 (hcell hw0 (fun _ => 0) 0)) := by kernel_rfl
theorem n51 : (Tryz.prog.info? 133).map (·.size) = some 8 := by kernel_rfl
theorem n53 : (Tryz.prog.info? 135).map (·.size) = some 64 := by kernel_rfl
theorem n55 : (Tryz.prog.info? 137).map (·.size) = some 73 := by kernel_rfl
theorem size55 (f : Nat → Value) : (Tryz.prog.info? 137).map (·.size) = some (arr 73 f).size := by rw [arr_size]; exact n55

theorem wpList_build_known {P : Program} {ops : Array Oper} {rest : List Oper} {o : Oper} {a : Act} {w : World} {Q : Exit → Act → World → Prop} (hg : o.guard = none) (t : TypeId) (parts : Array (Nat × Operand)) (ho : o.op = .build t parts)
    (cells : Array Value) (hb : P.built t (parts.map fun (i, x) => (i, a.eval x)).toList = some cells)
    (h : wpList P ops Q rest (a.put o.dst (.agg cells)) w) : wpList P ops Q (o :: rest) a w :=
  wpList_build hg t parts ho (by rw [hb]; rfl) (by rw [hb]; exact h)

theorem zero55 (w : World) : (zeroValue 137).run Tryz.prog w = .ok (.agg (arr 73 (hcell (fun _ => 0) (fun _ => 0) 0))) w := by kernel_rfl

set_option maxRecDepth 20000 in
theorem hnew_any (w : World) (hT : TabP w) : Calls Tryz.prog 97 #[] w fun e w' => ∃ p, e = .returned (.pointer (some ⟨p, 0, none⟩)) ∧ NewH w [] p w' := by
  have HT := hide hT
  clear hT
  have HB := hide built_hash
  go_enter Tryz.func97, Tryz.ntmps97
  go_wp2_with (first | refine wpList_load_arr rfl 133 (.global 1) rfl 1 0 rfl 8 (wv hw0) _ (fun j hj => by rw [Nat.zero_add]; exact (unhide HT).1 j hj) Tryz.underlying133 rfl n51 ?_ | refine wpList_build_known rfl 137 #[(0, .tmp 1)] rfl (arr 73 (hcell hw0 (fun _ => 0) 0)) ?hb ?nx)
  case hb => simpa [Act.eval] using unhide HB
  go_wp2
  go_ret
  exact ⟨w.heap.size, rfl, ⟨fun _ => 0, Blk.new w 137 73 _, fun j hj => absurd hj (by simp)⟩, (Fr.refl _ w).alloc _, Nat.le_refl _⟩

set_option maxRecDepth 20000 in
theorem hclone_any (w : World) (p : Nat) (bs : List UInt8) (hH : HAt w p bs) : Calls Tryz.prog 107 #[.pointer (some ⟨p, 0, none⟩)] w fun e w' => ∃ q, e = .returned (.pointer (some ⟨q, 0, none⟩)) ∧ NewH w bs q w' := by
  obtain ⟨blk, hb, hblk⟩ := hH
  have h1 : (arr 73 (hcell (absorb bs (bs.length / 64)) blk bs.length)).all (·.oneCell') = true := arr_one _ _ (hcell_one _ _ _)
  have HB := hide (And.intro hb h1)
  have HK := hide hblk
  clear hb hblk h1
  obtain ⟨F, hF⟩ : ∃ F, F = hcell (absorb bs (bs.length / 64)) blk bs.length := ⟨_, rfl⟩
  rw [← hF] at HB
  have HF := hide hF
  clear hF
  have hz := zero55
  go_enter Tryz.func107, Tryz.ntmps107
  go_wp2_with (first | refine wpList_load_row rfl 137 (.tmp 5) rfl p rfl 137 (arr 73 F) (0, 0) _ (unhide HB).1 Tryz.underlying137 rfl (size55 _) ?_ | refine wpList_store_row rfl 137 (.tmp 3) (.tmp 6) rfl w.heap.size (arr 73 F) rfl rfl 137 (arr 73 (hcell (fun _ => 0) (fun _ => 0) 0)) (Blk.new w 137 73 _) (size55 _) (by rw [arr_size, arr_size]) (unhide HB).2 ?_)
  go_ret
  exact ⟨w.heap.size, rfl, ⟨blk, by rw [← unhide HF]; exact (Blk.new w 137 73 _).row F, unhide HK⟩, ((Fr.refl _ w).alloc _).setRow (fun t => absurd t (Nat.lt_irrefl _)) _, Nat.le_refl _⟩

end Go.Proofs.YtabhfeocelljdaaGreatDoor

/- The contracts of filling and of the words' bytes. -/
namespace Go.Proofs.YtabhfeocelljdaaGreatDoor
open Go.RowKit

theorem be8_length (n : Nat) : (be8 n).length = 8 := rfl
theorem be4_length (n : Nat) : (be4 n).length = 4 := rfl
theorem fill_length (n : Nat) : (fill n).length = 72 - (n + 8) % 64 := by
  simp [fill, be8]; omega

/-- What lies in a filling under way: its first byte, and the last i. -/
def fillF (n L i j : Nat) : Int := if j = 0 then 128 else if L ≤ j + i then ((8 * n / 2 ^ (8 * (L - 1 - j)) % 256 : Nat) : Int) else 0

theorem fillF_next (n L i j : Nat) (hi : i < 8) (hL : 9 ≤ L) (hj : j < L) : fillF n L (i + 1) j = if j = L - 1 - i then ((8 * n / 2 ^ (8 * i) % 256 : Nat) : Int) else fillF n L i j := by
  unfold fillF
  by_cases h0 : j = 0
  · rw [if_pos h0, if_neg (by omega), if_pos h0]
  · rw [if_neg h0, if_neg h0]
    by_cases e : j = L - 1 - i
    · rw [if_pos e, if_pos (by omega), show L - 1 - j = i by omega]
    · rw [if_neg e]
      by_cases h2 : L ≤ j + i
      · rw [if_pos h2, if_pos (by omega)]
      · rw [if_neg h2, if_neg (by omega)]

theorem be8_get (n k : Nat) (hk : k < 8) : (be8 n)[7 - k]? = some (UInt8.ofNat (n / 2 ^ (8 * k))) := by
  match k, hk with
  | 0, _ => simp [be8]
  | 1, _ => simp [be8]
  | 2, _ => simp [be8]
  | 3, _ => simp [be8]
  | 4, _ => simp [be8]
  | 5, _ => simp [be8]
  | 6, _ => simp [be8]
  | 7, _ => simp [be8]

theorem fill_get (n j : Nat) (hj : j < (fill n).length) : ((fill n)[j].toNat : Int) = fillF n (fill n).length 8 j := by
  have hl := fill_length n
  unfold fillF
  by_cases h0 : j = 0
  · subst h0; rw [if_pos rfl]; rfl
  · rw [if_neg h0]
    have e : (fill n)[j]? = some (fill n)[j] := List.getElem?_eq_getElem hj
    obtain ⟨k, rfl⟩ : ∃ k, j = k + 1 := ⟨j - 1, by omega⟩
    have e2 : (fill n)[k + 1]? = (List.replicate (63 - (n + 8) % 64) (0 : UInt8) ++ be8 (8 * n))[k]? := by
      unfold fill; rw [List.getElem?_cons_succ]
    rw [e2] at e
    by_cases h1 : k < 63 - (n + 8) % 64
    · rw [List.getElem?_append_left (by simpa using h1), List.getElem?_replicate, if_pos h1] at e
      rw [if_neg (by omega), ← Option.some.inj e]; rfl
    · rw [List.getElem?_append_right (by simpa using h1), List.length_replicate] at e
      have hm : k - (63 - (n + 8) % 64) = 7 - ((fill n).length - 1 - (k + 1)) := by omega
      rw [hm, be8_get _ _ (by omega)] at e
      rw [if_pos (by omega), ← Option.some.inj e, UInt8.toNat_ofNat']

def Filling (w wr : World) (g n L i : Nat) : Prop := Fr (fun _ => False) w wr ∧ w.heap.size = g ∧ ∀ j, j < L → wr.cell? ⟨g, j, none⟩ = some (.int .u8 (fillF n L i j)) ∧ wr.frozen? ⟨g, j, none⟩ = false

theorem Filling.next {w wr : World} {g n L i : Nat} (h : Filling w wr g n L i) (hi : i < 8) (hL : 9 ≤ L) : Filling w (wr.setCell ⟨g, L - 1 - i, none⟩ (.int .u8 (8 * n / 2 ^ (8 * i) % 256 : Nat))) g n L (i + 1) := by
  obtain ⟨h1, h2, h3⟩ := h
  refine ⟨h1.setCell (p := ⟨g, L - 1 - i, none⟩) (fun t => absurd t (by simp only []; omega)) _, h2, fun j hj => ⟨?_, by rw [World.frozen?_setCell]; exact (h3 j hj).2⟩⟩
  rw [fillF_next n L i j hi hL hj]
  by_cases e : j = L - 1 - i
  · subst e
    rw [if_pos rfl, World.cell?_setCell_same _ _ _ (h3 (L - 1 - i) hj).1]
  · rw [if_neg e, World.cell?_setCell_other _ _ _ _ (fun t => e (by injection t with _ t; exact t.symm))]
    exact (h3 j hj).1

set_option maxRecDepth 20000 in
set_option maxHeartbeats 1000000 in
theorem filling_any (w : World) (n : Nat) (hn : n ≤ 1125899906842624) : Calls Tryz.prog 108 #[.int .i64 n] w fun e w' => ∃ v, e = .returned v ∧ New w (fill n) v w' := by
  obtain ⟨L, hL⟩ : ∃ L, L = (fill n).length := ⟨_, rfl⟩
  have hl := fill_length n
  rw [← hL] at hl
  have HL := hide hL
  have hmk := fun w' => run_make_row' (P := Tryz.prog) 23 5 (.int .u8 0) 1 Tryz.underlying23 Tryz.info5 rfl .i64 .i64 L (by omega) (by omega) w'
  have hcast : 1 + (63 - ((n : Int) + 8) % 64) + 8 = (L : Int) := by omega
  have hLb : 9 ≤ L ∧ L ≤ 72 := by omega
  have HH := hide hl
  clear hL hl
  have hmj : ∀ j, j < L → (madeCells #[Value.int .u8 0] L)[j]? = some (.int .u8 0) := fun j hj => by simp [madeCells, hj, Nat.mod_one]
  have hm0 := hmj 0 (by omega)
  have hsz : (madeCells #[Value.int .u8 0] L).size = L := by simp [madeCells]
  have hM : Filling w (w.alloc (.cells ((madeCells #[.int .u8 0] L).setIfInBounds 0 (.int .u8 128)) 5)) w.heap.size n L 0 := by
    refine ⟨(Fr.refl _ w).alloc _, rfl, fun j hj => ⟨?_, World.frozen?_alloc_new _ _ _ _⟩⟩
    rw [World.cell?_alloc_new, Array.getElem?_setIfInBounds]
    unfold fillF
    by_cases e : j = 0
    · subst e; rw [if_pos rfl, if_pos rfl, if_pos (by rw [hsz]; omega)]
    · rw [if_neg (fun t => e t.symm), if_neg e, if_neg (by omega), hmj j hj]
  have HM := hide hM
  clear hM hmj hsz
  go_enter Tryz.func108, Tryz.ntmps108
  go_wp2
  clear hmk hcast hm0
  generalize (w.alloc (.cells ((madeCells #[.int .u8 0] L).setIfInBounds 0 (.int .u8 128)) 5)) = w0 at *
  obtain ⟨g, hg⟩ : ∃ g, w.heap.size = g := ⟨_, rfl⟩
  rw [hg] at HM ⊢
  go_loopw [6, 20] (fun _ iv wr => ∃ i : Nat, i ≤ 8 ∧ iv = .int .i64 i ∧ Hid (Filling w wr g n L i)) (fun _ iv _ => 8 - (intOf iv).toNat)
  case atStart => exact ⟨0, Nat.zero_le _, rfl, unhide HM⟩
  case round =>
    obtain ⟨i, hi, rfl, HS⟩ := hrel
    obtain ⟨hL9, hL72⟩ := hLb
    by_cases hlt : i < 8
    · have ci := ((unhide HS).2.2 (L - 1 - i) (by omega)).1
      have fi := ((unhide HS).2.2 (L - 1 - i) (by omega)).2
      have HN := hide ((unhide HS).next hlt hL9)
      have hv : ((8 * n / 2 ^ (8 * i) % 256 : Nat) : Int) = (n : Int) * 8 / 2 ^ (8 * i) % 256 := by
        rw [Int.natCast_emod, Int.natCast_ediv, Int.natCast_pow, Nat.mul_comm, Int.natCast_mul]; rfl
      rw [hv] at HN
      clear hv
      go_wp2
      exact ⟨⟨i + 1, by omega, by go_num, unhide HN⟩, by simp [intOf]; omega⟩
    · obtain rfl : i = 8 := by omega
      go_wp2
      go_ret
      obtain ⟨k1, k2, k3⟩ := unhide HS
      have hL := unhide HL
      have hc : ∀ j (hj : j < (fill n).length), wr.cell? ⟨g, j, none⟩ = some (.int .u8 ((fill n)[j].toNat)) := fun j hj => by
        rw [(k3 j (by omega)).1, fill_get n j hj, hL]
      refine ⟨_, rfl, g, ?_, k1, by omega⟩
      rw [hL]
      exact ⟨⟨_, _, rfl, Nat.le_refl _, by simp only [maxLen]; omega, fun _ => rfl, fun j hj => ⟨by rw [hc j hj]; rfl, (k3 j (by omega)).2⟩⟩, hc⟩

theorem wbytes_length (f : Nat → Nat) (i : Nat) : (wbytesZ f i).length = 4 * i := by
  induction i with
  | zero => rfl
  | succ i ih => simp [wbytesZ, be4, ih]; omega

theorem be4_cells (n : Nat) (hn : n < 4294967296) : (bytesV (be4 n)).toArray = #[Value.int .u8 ((n : Int) / 16777216), .int .u8 ((n : Int) / 65536 % 256), .int .u8 ((n : Int) / 256 % 256), .int .u8 ((n : Int) % 256)] := by
  simp [bytesV, be4]
  omega

theorem bat_lit (w : World) (bs : List UInt8) (t : TypeId) (fr : Nat × Nat) (hm : bs.length ≤ 140737488355328) : BAt (w.alloc (.cells (bytesV bs).toArray t fr)) (some ⟨w.heap.size, 0, none⟩) bs.length bs := by
  refine ⟨fun e => (by cases e), fun _ => ⟨_, _, rfl, fun j hj => ?_⟩, hm⟩
  rw [Nat.zero_add, cell_of_row _ _ _ _ t fr (heap_alloc_new w _), List.getElem?_toArray, bytesV_get _ _ hj]

set_option maxRecDepth 20000 in
set_option maxHeartbeats 1000000 in
theorem bytes_any (w : World) (f : Nat → Nat) (hf : ∀ j, f j < 4294967296) : Calls Tryz.prog 109 #[.agg (arr 8 (wv f))] w fun e w' => ∃ v, e = .returned v ∧ New w (wbytesZ f 8) v w' := by
  obtain ⟨i0, hi, hz0, hz1, hz2⟩ := info_parts Tryz.info5
  have hmk : ∀ w, (Instr.makeSlice 23 (.int .i64 0) (.int .i64 32)).run Tryz.prog w = .ok (.slice (some ⟨w.heap.size, 0, none⟩) 0 32) (w.alloc (.cells (madeCells #[.int .u8 0] 32) 5)) := by
    intro w
    have := run_make (P := Tryz.prog) w 23 5 i0 (.int .u8 0) Tryz.underlying23 hi hz0 .i64 .i64 0 32 (by omega) (by omega) (by rw [hz2]; omega) (by omega)
    rw [hz1] at this
    exact this
  have hM : New w [] (.slice (some ⟨w.heap.size + 1, 0, none⟩) 0 32) ((w.alloc (.cells (arr 8 (wv f)) 133)).alloc (.cells (madeCells #[.int .u8 0] 32) 5)) := by
    have e1 : (w.alloc (.cells (arr 8 (wv f)) 133)).heap.size = w.heap.size + 1 := by simp
    refine ⟨w.heap.size + 1, Row.empty (by simp [maxLen]) (fun j hj => ?_), ((Fr.refl _ w).alloc _).alloc _, by omega⟩
    rw [← e1]
    refine ⟨?_, World.frozen?_alloc_new _ _ _ _⟩
    rw [World.cell?_alloc_new, Array.getElem?_eq_getElem (by rw [size_madeCells]; exact hj)]; rfl
  have hb2 := (Blk.new w 133 8 (wv f)).alloc (.cells (madeCells #[.int .u8 0] 32) 5)
  have HM := hide (And.intro hM hb2)
  have HI := hide hi
  have HF := hide hf
  clear hi hf hM hb2
  go_enter Tryz.func109, Tryz.ntmps109
  go_wp2_with (refine wpList_load_row rfl 133 (.tmp 1) rfl w.heap.size rfl 133 (arr 8 (wv f)) (0, 0) _ (unhide HM).2 Tryz.underlying133 rfl (size51 _) ?nx)
  clear hmk
  generalize ((w.alloc (.cells (arr 8 (wv f)) 133)).alloc (.cells (madeCells #[.int .u8 0] 32) 5)) = w0 at *
  go_loopw [3, 5, 8] (fun bv _ iv wr => ∃ i : Nat, i ≤ 8 ∧ iv = .int .i64 i ∧ ∃ ao cap l, bv = .slice ao l cap ∧ l = 4 * i ∧ Hid (New w (wbytesZ f i) (.slice ao l cap) wr)) (fun _ _ iv _ => 8 - (intOf iv).toNat)
  case atStart => exact ⟨0, Nat.zero_le _, rfl, _, _, _, rfl, rfl, (unhide HM).1⟩
  case round =>
    obtain ⟨i, hi8, rfl, ao, cap, l, rfl, hl, HS⟩ := hrel
    by_cases hlt : i < 8
    · have hix := fun w => run_index_8 w f i hlt
      have hfi := unhide HF i
      obtain ⟨g, k1, k2, k3⟩ := unhide HS
      obtain ⟨x, hx⟩ : ∃ x, f i = x := ⟨_, rfl⟩
      have hn : wbytesZ f (i + 1) = wbytesZ f i ++ be4 x := by rw [← hx]; rfl
      rw [hx] at hfi hix
      have hbe := be4_cells x hfi
      have hR : (wbytesZ f i).length = l := by rw [wbytes_length, hl]
      generalize wbytesZ f i = R at *
      subst hR
      have HK := hide (And.intro k1 (And.intro k2 k3))
      have HN := hide hn
      have HL := hide hl
      have HBE := hide hbe
      have hfit : R.length + 4 ≤ 140737488355328 := by omega
      clear k1 k2 k3 hn hl hx hbe HS
      go_wp2_with (at_builtin; refine wpList_append_row _ rfl (.tmp 11) (.tmp 23) 23 23 rfl 5 i0 Tryz.underlying23 (unhide HI) hz0 hz1 hz2 (ao := ao) (cap := cap) (g := g) (bs := R) rfl ((unhide HK).1.stay (fun hx => Below.heap_alloc wr _ _ hx)) _ (be4 x) rfl ?hs hfit ?nx2)
      case hs =>
        rw [← unhide HBE]
        exact src_slice Tryz.underlying23 _ _ 4 (be4 x) (bat_lit wr (be4 x) 5 (0, 0) (by simp [be4])).2.1
      intro ao3 cap3 w3 g3 k1 k2 k3
      obtain ⟨m1, m2, m3⟩ := unhide HK
      have hF3 := (m2.alloc (.cells #[.int .u8 ((x : Int) / 16777216), .int .u8 ((x : Int) / 65536 % 256), .int .u8 ((x : Int) / 256 % 256), .int .u8 ((x : Int) % 256)] 5)).trans k2 (fun i hi t => by omega)
      have hg3 : w.heap.size ≤ g3 := by
        have h9 := m2.size
        rcases k3 with ⟨e1, _⟩ | k3
        · omega
        · have h8 : (wr.alloc (.cells #[.int .u8 ((x : Int) / 16777216), .int .u8 ((x : Int) / 65536 % 256), .int .u8 ((x : Int) / 256 % 256), .int .u8 ((x : Int) % 256)] 5)).heap.size = wr.heap.size + 1 := by simp
          omega
      have HN3 := hide (And.intro k1 (And.intro hF3 hg3))
      clear k1 k2 k3 m1 m2 m3 hF3 hg3
      rw [be4_length] at HN3 ⊢
      go_wp2
      refine ⟨⟨i + 1, by omega, by go_num, ao3, cap3, R.length + 4, rfl, by have := unhide HL; omega, g3, ?_⟩, by simp [intOf]; omega⟩
      rw [unhide HN]
      exact unhide HN3
    · obtain rfl : i = 8 := by omega
      go_wp2
      go_ret
      exact ⟨_, rfl, unhide HS⟩

end Go.Proofs.YtabhfeocelljdaaGreatDoor

/- The contract of Write. -/
namespace Go.Proofs.YtabhfeocelljdaaGreatDoor
open Go.RowKit

theorem absorb_lt (bs : List UInt8) (k j : Nat) : absorb bs k j < 4294967296 := by
  cases k with
  | zero => exact hw0_lt j
  | succ k => exact comp_lt _ _ _

theorem comp_congr (h : Nat → Nat) (b b' : Nat → UInt8) (e : ∀ j, j < 64 → b j = b' j) : comp h b = comp h b' := by
  have hw : wfirst b 16 = wfirst b' 16 := by
    funext j
    unfold wfirst
    by_cases hj : j < 16
    · rw [if_pos hj, if_pos hj, wrd, wrd, e _ (by omega), e _ (by omega), e _ (by omega), e _ (by omega)]
    · rw [if_neg hj, if_neg hj]
  unfold comp spr
  rw [hw]

theorem getD_append_left (a b : List UInt8) (i : Nat) (h : i < a.length) : (a ++ b).getD i 0 = a.getD i 0 := by
  rw [List.getD_eq_getElem?_getD, List.getD_eq_getElem?_getD, List.getElem?_append_left h]
theorem getD_append_right (a b : List UInt8) (i : Nat) (h : a.length ≤ i) : (a ++ b).getD i 0 = b.getD (i - a.length) 0 := by
  rw [List.getD_eq_getElem?_getD, List.getD_eq_getElem?_getD, List.getElem?_append_right h]

theorem absorb_append (bs ms : List UInt8) (k : Nat) (hk : 64 * k ≤ bs.length) : absorb (bs ++ ms) k = absorb bs k := by
  induction k with
  | zero => rfl
  | succ k ih =>
    show comp _ _ = comp _ _
    rw [ih (by omega)]
    exact comp_congr _ _ _ (fun j hj => getD_append_left _ _ _ (by omega))

/-- A block into which bytes were put. -/
def bput (blk : Nat → UInt8) (r : Nat) (ps : List UInt8) (j : Nat) : UInt8 := if r ≤ j ∧ j < r + ps.length then ps.getD (j - r) 0 else blk j

/-- The bytes that stand behind the last whole block. -/
def Rest (bs : List UInt8) (blk : Nat → UInt8) : Prop := ∀ j, j < bs.length % 64 → blk j = bs.getD (64 * (bs.length / 64) + j) 0

theorem bput_is (bs ps : List UInt8) (blk : Nat → UInt8) (h : Rest bs blk) (j : Nat) (hj : j < bs.length % 64 + ps.length) : bput blk (bs.length % 64) ps j = (bs ++ ps).getD (64 * (bs.length / 64) + j) 0 := by
  unfold bput
  by_cases h1 : j < bs.length % 64
  · rw [if_neg (by omega), h j h1, getD_append_left _ _ _ (by omega)]
  · rw [if_pos ⟨by omega, hj⟩, getD_append_right _ _ _ (by omega)]
    congr 1
    omega

theorem rest_some (bs ps : List UInt8) (blk : Nat → UInt8) (h : Rest bs blk) (hl : bs.length % 64 + ps.length < 64) : Rest (bs ++ ps) (bput blk (bs.length % 64) ps) ∧ absorb (bs ++ ps) ((bs ++ ps).length / 64) = absorb bs (bs.length / 64) := by
  have e : (bs ++ ps).length = bs.length + ps.length := List.length_append
  have e2 : (bs ++ ps).length / 64 = bs.length / 64 := by omega
  refine ⟨fun j hj => ?_, ?_⟩
  · rw [e2]
    exact bput_is bs ps blk h j (by omega)
  · rw [e2]
    exact absorb_append bs ps _ (by omega)

theorem rest_whole (bs ps : List UInt8) (blk : Nat → UInt8) (h : Rest bs blk) (hl : bs.length % 64 + ps.length = 64) : (∀ blk', Rest (bs ++ ps) blk') ∧ absorb (bs ++ ps) ((bs ++ ps).length / 64) = comp (absorb bs (bs.length / 64)) (bput blk (bs.length % 64) ps) := by
  have e : (bs ++ ps).length = bs.length + ps.length := List.length_append
  have e2 : (bs ++ ps).length / 64 = bs.length / 64 + 1 := by omega
  refine ⟨fun blk' j hj => absurd hj (by omega), ?_⟩
  rw [e2]
  show comp _ _ = comp _ _
  rw [absorb_append bs ps _ (by omega)]
  exact comp_congr _ _ _ (fun j hj => (bput_is bs ps blk h j (by omega)).symm)

theorem bv_get (ms : List UInt8) (n j : Nat) (hj : j < n) (hn : n ≤ ms.length) : (bytesV (ms.take n))[j]? = some (.int .u8 (ms.getD j 0).toNat) := by
  have hj2 : j < (ms.take n).length := by rw [List.length_take]; omega
  rw [bytesV_get _ _ hj2, List.getElem_take, List.getD_eq_getElem?_getD, List.getElem?_eq_getElem (by omega)]
  rfl

theorem hcell_low (f : Nat → Nat) (blk : Nat → UInt8) (N r : Nat) (ps : List UInt8) (j : Nat) (h1 : j < 8 + r ∨ 8 + r + ps.length ≤ j) : hcell f blk N j = hcell f (bput blk r ps) N j := by
  unfold hcell bput
  by_cases h8 : j < 8
  · rw [if_pos h8, if_pos h8]
  · rw [if_neg h8, if_neg h8]
    by_cases h7 : j < 72
    · rw [if_pos h7, if_pos h7, if_neg (by omega)]
    · rw [if_neg h7, if_neg h7]
theorem hcell_in (f : Nat → Nat) (blk : Nat → UInt8) (N r : Nat) (ps : List UInt8) (j : Nat) (h1 : 8 + r ≤ j) (h2 : j < 8 + r + ps.length) (h3 : j < 72) : hcell f (bput blk r ps) N j = .int .u8 (ps.getD (j - (8 + r)) 0).toNat := by
  unfold hcell bput
  rw [if_neg (by omega), if_pos h3, if_pos (by omega), show j - 8 - r = j - (8 + r) by omega]

theorem splice_get (l m : List Value) (o j : Nat) (ho : o + m.length ≤ l.length) : (l.take o ++ m ++ l.drop (o + m.length))[j]? = if j < o then l[j]? else if j < o + m.length then m[j - o]? else l[j]? := by
  have ht : (l.take o).length = o := by rw [List.length_take]; omega
  by_cases h1 : j < o
  · rw [if_pos h1, List.append_assoc, List.getElem?_append_left (by omega), List.getElem?_take, if_pos h1]
  · rw [if_neg h1]
    by_cases h2 : j < o + m.length
    · rw [if_pos h2, List.getElem?_append_left (by rw [List.length_append, ht]; omega), List.getElem?_append_right (by omega), ht]
    · rw [if_neg h2, List.getElem?_append_right (by rw [List.length_append, ht]; omega), List.length_append, ht, List.getElem?_drop, show o + m.length + (j - (o + m.length)) = j by omega]

theorem splice_hash (f : Nat → Nat) (blk : Nat → UInt8) (N r : Nat) (ps : List UInt8) (hr : r + ps.length ≤ 64) (A : Array Value) (hA : A = arr 73 (hcell f blk N)) :
    (A.toList.take (8 + r) ++ bytesV ps ++ A.toList.drop (8 + r + (bytesV ps).length)).toArray = arr 73 (hcell f (bput blk r ps) N) := by
  have hl : A.toList.length = 73 := by rw [hA, Array.length_toList, arr_size]
  have hg : ∀ i, A.toList[i]? = if i < 73 then some (hcell f blk N i) else none := fun i => by
    rw [Array.getElem?_toList, hA]
    by_cases hi : i < 73
    · rw [if_pos hi, arr_get _ _ _ hi]
    · rw [if_neg hi, Array.getElem?_eq_none (by rw [arr_size]; omega)]
  have hbl := bytesV_length ps
  apply Array.ext_getElem?
  intro j
  rw [List.getElem?_toArray, splice_get _ _ _ _ (by omega), hg j]
  by_cases hj : j < 73
  · rw [arr_get _ _ _ hj, if_pos hj]
    by_cases h1 : j < 8 + r
    · rw [if_pos h1]
      exact congrArg some (hcell_low f blk N r ps j (.inl h1))
    · rw [if_neg h1]
      by_cases h2 : j < 8 + r + (bytesV ps).length
      · rw [if_pos h2, bytesV_get _ _ (by omega)]
        refine congrArg some ?_
        rw [hcell_in f blk N r ps j (by omega) (by omega) (by omega), List.getD_eq_getElem?_getD, List.getElem?_eq_getElem (by omega)]
        rfl
      · rw [if_neg h2]
        exact congrArg some (hcell_low f blk N r ps j (.inr (by omega)))
  · rw [Array.getElem?_eq_none (by rw [arr_size]; omega), if_neg (by omega), if_neg (by omega), if_neg hj]

/-- Bytes are copied into a hash's block, as one step of a region that draws its order. -/
theorem step_copy_hash {ops : Array Oper} {o : Oper} {a : Act} {w : World} {K : Act → World → Prop} {Q : Exit → Act → World → Prop} {E : Prop} (hgd : o.guard = none) (d s : Operand)
    (ho : o.op = .call { callee := .builtin .copy, args := #[d, s], argTypes := #[23, 23] }) (p r : Nat) (f : Nat → Nat) (blk : Nat → UInt8) (N : Nat) (hb : Blk w p 137 73 (hcell f blk N)) (hr : r < 64)
    (c : Nat) (hd : a.eval d = .slice (some ⟨p, 8 + r, none⟩) (64 - r) c) (ao : Option Addr) (cap : Nat) (ms : List UInt8) (hs : a.eval s = .slice ao ms.length cap) (hB : BAt w ao cap ms) (h0 : 0 < ms.length)
    (h : ∀ w', Hid (Blk w' p 137 73 (hcell f (bput blk r (ms.take (64 - r))) N)) → Hid (Fr (fun k => k = p) w w') → K (a.put o.dst (.int .i64 (min ms.length (64 - r) : Nat))) w') :
    if Region.wanted o (yielded ops a.tmps) = true then Oper.wp Tryz.prog o a w K Q else E := by
  have hw : Region.wanted o (yielded ops a.tmps) = true := by simp [Region.wanted, hgd]
  rw [if_pos hw]
  obtain ⟨b, off, rfl, hc⟩ := hB.2.1 h0
  have hlen : (bytesV (ms.take (64 - r))).length = Nat.min ms.length (64 - r) := by
    rw [bytesV_length, List.length_take]; exact Nat.min_comm _ _
  have hmin : Nat.min ms.length (64 - r) ≤ 64 - r := Nat.min_le_right _ _
  have hmin2 : Nat.min ms.length (64 - r) ≤ ms.length := Nat.min_le_left _ _
  have hrun := run_copy_row (P := Tryz.prog) w 23 23 o.type 5 p (8 + r) (64 - r) c ⟨b, off, none⟩ ms.length cap (arr 73 (hcell f blk N)) 137 (bytesV (ms.take (64 - r))) Tryz.underlying23 (by kernel_rfl) hb hlen
    (fun j v hv => by
      have hj : j < (ms.take (64 - r)).length := by
        have := (List.getElem?_eq_some_iff.1 hv).1
        rwa [bytesV_length] at this
      rw [bytesV_get _ _ hj] at hv
      rw [Addr.add_lit, ← hv, List.getElem_take]
      exact hc j (by rw [List.length_take] at hj; omega))
    (by rw [hlen, arr_size]; omega) (bytesV_one _)
  rw [splice_hash f blk N r (ms.take (64 - r)) (by rw [← bytesV_length, hlen]; omega) _ rfl, hlen] at hrun
  unfold Oper.wp
  simp only [execOp, ho, resolve, invoke, builtin, Sem.run_bind, Sem.run_pure, Result.andThen_ok]
  simp [hd, hs, hrun, Result.andThen]
  exact h _ (hb.row _) (Fr.setRow (S := fun k => k = p) (Fr.refl _ w) (g := p) (fun _ => rfl) _)

theorem Blk.size {w : World} {p : Nat} {f : Nat → Nat} {blk : Nat → UInt8} {N : Nat} (h : Blk w p 137 73 (hcell f blk N)) (M : Nat) : Blk (w.setCell ⟨p, 72, none⟩ (.int .i64 M)) p 137 73 (hcell f blk M) := by
  refine (h.set 72 (by omega) (.int .i64 M)).same (fun j hj => ?_)
  unfold hcell
  by_cases e : j = 72
  · subst e; rw [if_pos rfl]; rfl
  · rw [if_neg e]
    by_cases h8 : j < 8
    · rw [if_pos h8, if_pos h8]
    · rw [if_neg h8, if_neg h8, if_pos (by omega), if_pos (by omega)]

/-- Words of which the first i are new. -/
def mixw (f' f : Nat → Nat) (i k : Nat) : Nat := if k < i then f' k else f k
/-- A slice's length. -/
def slen : Value → Nat
  | .slice _ n _ => n
  | _ => 0

theorem hcell_set (f f' : Nat → Nat) (blk : Nat → UInt8) (N i : Nat) (hi : i < 8) (j : Nat) :
    (if j = i then Value.int .u32 (f' i) else hcell (mixw f' f i) blk N j) = hcell (mixw f' f (i + 1)) blk N j := by
  unfold hcell mixw
  by_cases e : j = i
  · subst e; rw [if_pos rfl, if_pos hi, if_pos (by omega)]
  · rw [if_neg e]
    by_cases h8 : j < 8
    · rw [if_pos h8, if_pos h8]
      by_cases h2 : j < i
      · rw [if_pos h2, if_pos (by omega)]
      · rw [if_neg h2, if_neg (by omega)]
    · rw [if_neg h8, if_neg h8]

theorem Blk.words {w : World} {p : Nat} {f : Nat → Nat} {blk : Nat → UInt8} {N : Nat} (h : Blk w p 137 73 (hcell f blk N)) (f' : Nat → Nat) : Blk (w.setCells p 0 (arr 8 (wv f')).toList) p 137 73 (hcell f' blk N) := by
  have h0 : Blk w p 137 73 (hcell (mixw f' f 0) blk N) := h.same (fun j _ => by simp [hcell, mixw])
  have h1 := (h0.set 0 (by omega) (.int .u32 (f' 0))).same (fun j _ => hcell_set f f' blk N 0 (by omega) j)
  have h2 := (h1.set 1 (by omega) (.int .u32 (f' 1))).same (fun j _ => hcell_set f f' blk N 1 (by omega) j)
  have h3 := (h2.set 2 (by omega) (.int .u32 (f' 2))).same (fun j _ => hcell_set f f' blk N 2 (by omega) j)
  have h4 := (h3.set 3 (by omega) (.int .u32 (f' 3))).same (fun j _ => hcell_set f f' blk N 3 (by omega) j)
  have h5 := (h4.set 4 (by omega) (.int .u32 (f' 4))).same (fun j _ => hcell_set f f' blk N 4 (by omega) j)
  have h6 := (h5.set 5 (by omega) (.int .u32 (f' 5))).same (fun j _ => hcell_set f f' blk N 5 (by omega) j)
  have h7 := (h6.set 6 (by omega) (.int .u32 (f' 6))).same (fun j _ => hcell_set f f' blk N 6 (by omega) j)
  have h8 := (h7.set 7 (by omega) (.int .u32 (f' 7))).same (fun j _ => hcell_set f f' blk N 7 (by omega) j)
  refine Blk.same (f := hcell (mixw f' f 8) blk N) h8 (fun j _ => ?_)
  unfold hcell mixw
  by_cases h8 : j < 8
  · rw [if_pos h8, if_pos h8, if_pos h8]
  · rw [if_neg h8, if_neg h8]

theorem load_words {w : World} {p : Nat} {f : Nat → Nat} {blk : Nat → UInt8} {N : Nat} (h : Blk w p 137 73 (hcell f blk N)) : (Instr.loadAt 133 (.pointer (some ⟨p, 0, none⟩))).run Tryz.prog w = .ok (.agg (arr 8 (wv f))) w := by
  have := run_loadAt_mid (P := Tryz.prog) w p 0 133 (arr 8 (wv f)).toList _ (fun j v hv => by
    rw [Array.getElem?_toList] at hv
    by_cases hj : j < 8
    · rw [arr_get 8 _ j hj] at hv
      rw [← hv, Nat.zero_add, h.cell j (by omega)]
      unfold hcell wv
      rw [if_pos hj]
    · rw [Array.getElem?_eq_none (by rw [arr_size]; omega)] at hv
      cases hv) Tryz.underlying133 rfl (by rw [Array.length_toList, arr_size]; exact n51)
  rwa [Array.toArray_toList] at this
theorem load_block {w : World} {p : Nat} {f : Nat → Nat} {blk : Nat → UInt8} {N : Nat} (h : Blk w p 137 73 (hcell f blk N)) : (Instr.loadAt 135 (.pointer (some ⟨p, 8, none⟩))).run Tryz.prog w = .ok (.agg (arr 64 (bv blk))) w := by
  have := run_loadAt_mid (P := Tryz.prog) w p 8 135 (arr 64 (bv blk)).toList _ (fun j v hv => by
    rw [Array.getElem?_toList] at hv
    by_cases hj : j < 64
    · rw [arr_get 64 _ j hj] at hv
      rw [← hv, h.cell (8 + j) (by omega)]
      unfold hcell bv
      rw [if_neg (by omega), if_pos (by omega), show 8 + j - 8 = j by omega]
    · rw [Array.getElem?_eq_none (by rw [arr_size]; omega)] at hv
      cases hv) Tryz.underlying135 rfl (by rw [Array.length_toList, arr_size]; exact n53)
  rwa [Array.toArray_toList] at this
theorem store_words {w : World} {p : Nat} {f : Nat → Nat} {blk : Nat → UInt8} {N : Nat} (h : Blk w p 137 73 (hcell f blk N)) (f' : Nat → Nat) : (Instr.storeAt 133 (.pointer (some ⟨p, 0, none⟩)) (.agg (arr 8 (wv f')))).run Tryz.prog w = .ok () (w.setCells p 0 (arr 8 (wv f')).toList) :=
  run_storeAt_mid (P := Tryz.prog) w p 0 133 (arr 8 (wv f')) (fun j hj => by
    rw [arr_size] at hj
    rw [Nat.zero_add, h.cell j (by omega)]
    exact ⟨rfl, h.frozen j⟩) (by rw [arr_size]; exact n51) (arr_one _ _ (fun _ => rfl))

theorem load_words2 {w : World} {p : Nat} {f : Nat → Nat} {blk : Nat → UInt8} {N : Nat} (h : Blk w p 137 73 (hcell f blk N)) : (loadVar 133 ⟨p, 0, none⟩).run Tryz.prog w = .ok (.agg (arr 8 (wv f))) w := by
  have := load_words h
  simpa only [Instr.loadAt, Instr.sureAddr, Sem.run_bind, Sem.run_pure, Result.andThen_ok] using this
theorem load_block2 {w : World} {p : Nat} {f : Nat → Nat} {blk : Nat → UInt8} {N : Nat} (h : Blk w p 137 73 (hcell f blk N)) : (loadVar 135 ⟨p, 8, none⟩).run Tryz.prog w = .ok (.agg (arr 64 (bv blk))) w := by
  have := load_block h
  simpa only [Instr.loadAt, Instr.sureAddr, Sem.run_bind, Sem.run_pure, Result.andThen_ok] using this
theorem store_words2 {w : World} {p : Nat} {f : Nat → Nat} {blk : Nat → UInt8} {N : Nat} (h : Blk w p 137 73 (hcell f blk N)) (f' : Nat → Nat) : (storeVar 133 ⟨p, 0, none⟩ (.agg (arr 8 (wv f')))).run Tryz.prog w = .ok () (w.setCells p 0 (arr 8 (wv f')).toList) := by
  have := store_words h f'
  simpa only [Instr.storeAt, Instr.sureAddr, Sem.run_bind, Sem.run_pure, Result.andThen_ok] using this

/-- The slice's bytes lie in no block p. -/
def Sep (ao : Option Addr) (n p : Nat) : Prop := ∀ b off, ao = some ⟨b, off, none⟩ → 0 < n → b ≠ p

theorem BAt.keep {w w' : World} {ao : Option Addr} {cap : Nat} {bs : List UInt8} {p : Nat} (h : BAt w ao cap bs) (hs : Sep ao bs.length p) (hF : Fr (fun k => k = p) w w') : BAt w' ao cap bs :=
  h.stay fun b off e h0 hlt => hF.block b hlt (hs b off e h0)

theorem hat_some {w : World} {p N n r : Nat} {bs ps : List UInt8} {blk : Nat → UInt8} {f : Nat → Nat} (hN : N = bs.length) (hf : f = absorb bs (bs.length / 64)) (hr : r = N % 64) (hn : ps.length = n) (hR : Rest bs blk) (hl : r + n < 64) (h : Blk w p 137 73 (hcell f (bput blk r ps) (N + n))) : HAt w p (bs ++ ps) := by
  subst hN hr hn
  obtain ⟨h1, h2⟩ := rest_some bs ps blk hR hl
  refine ⟨_, ?_, h1⟩
  rw [h2, List.length_append, ← hf]
  exact h
theorem hat_whole {w : World} {p N n r : Nat} {bs ps : List UInt8} {blk : Nat → UInt8} {f : Nat → Nat} (hN : N = bs.length) (hf : f = absorb bs (bs.length / 64)) (hr : r = N % 64) (hn : ps.length = n) (hR : Rest bs blk) (hl : r + n = 64) (h : Blk w p 137 73 (hcell (comp f (bput blk r ps)) (bput blk r ps) (N + n))) : HAt w p (bs ++ ps) := by
  subst hN hr hn
  obtain ⟨h1, h2⟩ := rest_whole bs ps blk hR hl
  refine ⟨bput blk (bs.length % 64) ps, ?_, h1 _⟩
  rw [h2, List.length_append, ← hf]
  exact h

theorem write_next {w wr w' : World} {p : Nat} {bs don rst ms : List UInt8} {cap n r b off : Nat} (ad : Addr) (hD : ms = don ++ rst) (hB : BAt wr (some ⟨b, off, none⟩) cap rst) (hS : Sep (some ⟨b, off, none⟩) rst.length p) (hF0 : Fr (fun k => k = p) w wr)
    (hn : n = min rst.length (64 - r)) (h0 : 0 < rst.length) (hcap : rst.length ≤ cap) (had : cap ≠ n → ad = ⟨b, off + n, none⟩) (hF : Fr (fun k => k = p) wr w') (hA : HAt w' p (bs ++ don ++ rst.take n)) :
    ∃ don' rst' ao' cap', Value.slice (some ad) (rst.length - n) (cap - n) = .slice ao' rst'.length cap' ∧ rst'.length ≤ cap' ∧ Hid (ms = don' ++ rst') ∧ Hid (BAt w' ao' cap' rst' ∧ Sep ao' rst'.length p ∧ HAt w' p (bs ++ don') ∧ Fr (fun k => k = p) w w') := by
  obtain ⟨b0, off0, e0, hc⟩ := hB.2.1 h0
  injection e0 with e0
  injection e0 with e1 e2
  subst e1 e2
  have hl : (rst.drop n).length = rst.length - n := List.length_drop
  refine ⟨don ++ rst.take n, rst.drop n, some ad, cap - n, by rw [hl], by omega, ?_, ⟨fun e => (by cases e), fun h1 => ?_, by have := hB.2.2; omega⟩, fun b1 off1 e1 h1 => ?_, by rw [← List.append_assoc]; exact hA, hF0.trans hF (fun _ _ t => t)⟩
  · show ms = _
    rw [hD, List.append_assoc, List.take_append_drop]
  · rw [had (by omega)]
    refine ⟨b, off + n, rfl, fun j hj => ?_⟩
    have hj2 : n + j < rst.length := by omega
    have := hc (n + j) hj2
    rw [← Nat.add_assoc] at this
    rw [hF.cell (a := ⟨b, off + n + j, none⟩) (World.block_lt_of_cell? _ _ this) (hS b off rfl h0), this, List.getElem_drop]
  · rw [had (by omega)] at e1
    injection e1 with e1
    injection e1 with e1 _
    rw [← e1]
    exact hS b off rfl h0

theorem run_slice_block (w : World) (p r : Nat) (hr : r < 64) : (Instr.sliceAt 135 (.pointer (some ⟨p, 8, none⟩)) (some (.int .i64 r)) none none).run Tryz.prog w = .ok (.slice (some ⟨p, 8 + r, none⟩) (64 - r) (64 - r)) w := by
  have hl : Tryz.prog.arrayLen 135 = 64 := by kernel_rfl
  have he : Tryz.prog.elem 135 = 5 := by kernel_rfl
  have hs : (sizeOf 5).run Tryz.prog w = .ok 1 w := by kernel_rfl
  rw [run_sliceAt_array_l w 135 ⟨p, 8, none⟩ (by rw [hl, he]; exact Tryz.underlying135) .i64 r (by omega) (by rw [hl]; omega), he, hl, hs]
  simp only [slicedAt, Result.andThen_ok, Int.toNat_natCast, Nat.mul_one, Addr.add_lit]
  rw [if_neg (by omega)]

/-- A load whose run is known, a store whose run is known: as one step of a region that draws its order. -/
theorem step_load_run {P : Program} {ops : Array Oper} {o : Oper} {a : Act} {w : World} {K : Act → World → Prop} {Q : Exit → Act → World → Prop} {E : Prop} (hgd : o.guard = none) (ty : TypeId) (x : Operand) (ho : o.op = .load ty x)
    (xv v : Value) (hx : a.eval x = xv) (hrun : (Instr.loadAt ty xv).run P w = .ok v w) (hK : K (a.put o.dst v) w) : if Region.wanted o (yielded ops a.tmps) = true then Oper.wp P o a w K Q else E := by
  have hw : Region.wanted o (yielded ops a.tmps) = true := by simp [Region.wanted, hgd]
  rw [if_pos hw]
  unfold Oper.wp execOp
  simp only [ho, hx, Sem.run_bind, hrun, Result.andThen_ok, Sem.run_pure]
  exact hK
theorem step_store_run {P : Program} {ops : Array Oper} {o : Oper} {a : Act} {w w' : World} {K : Act → World → Prop} {Q : Exit → Act → World → Prop} {E : Prop} (hgd : o.guard = none) (ty : TypeId) (x y : Operand) (ho : o.op = .store ty x y)
    (xv yv : Value) (hx : a.eval x = xv) (hy : a.eval y = yv) (hrun : (Instr.storeAt ty xv yv).run P w = .ok () w') (hK : K (a.put o.dst undef) w') : if Region.wanted o (yielded ops a.tmps) = true then Oper.wp P o a w K Q else E := by
  have hw : Region.wanted o (yielded ops a.tmps) = true := by simp [Region.wanted, hgd]
  rw [if_pos hw]
  unfold Oper.wp execOp
  simp only [ho, hx, hy, Sem.run_bind, hrun, Result.andThen_ok, Sem.run_pure]
  exact hK

section
variable {P : Program} {ops : Array Oper} {Q : Exit → Act → World → Prop} {md : Region.Mode} {fuel : Nat} {listed : Array Bool} {a : Act} {w : World} {i : Nat} {o : Oper} {rs : List Nat}
/-- The same, where one of several operations may come up next. -/
theorem ready_load (hi : ops[i]? = some o) (hgd : o.guard = none) (ty : TypeId) (x : Operand) (ho : o.op = .load ty x) (xv v : Value) (hx : a.eval x = xv) (hrun : (Instr.loadAt ty xv).run P w = .ok v w)
    (h : wpAny P md ops Q fuel (listed.setIfInBounds i true) (a.put o.dst v) w) (hs : AllReady P md ops Q fuel listed a w rs) : AllReady P md ops Q fuel listed a w (i :: rs) :=
  AllReady.cons hi (fun _ hK => step_load_run hgd ty x ho xv v hx hrun (hK _ _ h)) hs
theorem ready_store {w' : World} (hi : ops[i]? = some o) (hgd : o.guard = none) (ty : TypeId) (x y : Operand) (ho : o.op = .store ty x y) (xv yv : Value) (hx : a.eval x = xv) (hy : a.eval y = yv) (hrun : (Instr.storeAt ty xv yv).run P w = .ok () w')
    (h : wpAny P md ops Q fuel (listed.setIfInBounds i true) (a.put o.dst undef) w') (hs : AllReady P md ops Q fuel listed a w rs) : AllReady P md ops Q fuel listed a w (i :: rs) :=
  AllReady.cons hi (fun _ hK => step_store_run hgd ty x y ho xv yv hx hy hrun (hK _ _ h)) hs
theorem ready_call (hi : ops[i]? = some o) (hgd : o.guard = none) (f : FuncId) (args : Array Value) (hrun : (execOp a.eval o).run P w = .ok (.enter f args) w) {Post : Ending → World → Prop} (hc : Calls P f args w Post)
    (h : ∀ e w', Post e w' → ∃ v, e = .returned v ∧ wpAny P md ops Q fuel (listed.setIfInBounds i true) (a.put o.dst v) w') (hs : AllReady P md ops Q fuel listed a w rs) : AllReady P md ops Q fuel listed a w (i :: rs) := by
  refine AllReady.cons hi (fun K hK => ?_) hs
  have hw : Region.wanted o (yielded ops a.tmps) = true := by simp [Region.wanted, hgd]
  rw [if_pos hw]
  unfold Oper.wp
  rw [hrun, Oper.upon_enter]
  refine hc.mono fun e w'' hh => ?_
  obtain ⟨v, rfl, hv⟩ := h e w'' hh
  exact hK _ _ hv
end

end Go.Proofs.YtabhfeocelljdaaGreatDoor

