/- Bytes in memory; the hash in memory; the contracts of New, Clone, Len. -/
import Derived.Test.YtgklgbomfipagaaDoorH3
import Derived.Deep.MidRow
namespace Go.Proofs.YtgklgbomfipagaaDoor
open Go.RowKit

/-- Bytes that can be read: in a slice of any kind. -/
def BAt (w : World) (ao : Option Addr) (cap : Nat) (bs : List UInt8) : Prop :=
  (ao = none → bs.length = 0 ∧ cap = 0) ∧ (0 < bs.length → ∃ b off, ao = some ⟨b, off, none⟩ ∧ ∀ j (hj : j < bs.length), w.cell? ⟨b, off + j, none⟩ = some (.int .u8 (bs[j].toNat))) ∧ bs.length ≤ 140737488355328

theorem BAt.stay {w w' : World} {ao : Option Addr} {cap : Nat} {bs : List UInt8} (h : BAt w ao cap bs) (hb : ∀ b off, ao = some ⟨b, off, none⟩ → 0 < bs.length → b < w.heap.size → w'.heap[b]? = w.heap[b]?) : BAt w' ao cap bs := by
  refine ⟨h.1, fun h0 => ?_, h.2.2⟩
  obtain ⟨b, off, rfl, hc⟩ := h.2.1 h0
  refine ⟨b, off, rfl, fun j hj => ?_⟩
  rw [World.cell?_of_block (a := ⟨b, off + j, none⟩) (hb b off rfl h0 (World.block_lt_of_cell? _ _ (hc j hj)))]
  exact hc j hj

theorem BAt.later {w w' : World} {ao : Option Addr} {cap : Nat} {bs : List UInt8} (h : BAt w ao cap bs) (hF : Fr (fun _ => False) w w') : BAt w' ao cap bs := h.stay fun b _ _ _ hlt => hF.block b hlt (fun t => t)

theorem Tryd.info5 : (Tryd.prog.info? 5).map (fun i => (i.zero, i.size, i.bytes)) = some (some (.int .u8 0), 1, 1) := by kernel_rfl

/-- What comes out: bytes of its owner's, and nothing that was there has turned. -/
def New (w : World) (bs : List UInt8) (v : Value) (w' : World) : Prop := ∃ g, Row w' v g bs ∧ Fr (fun _ => False) w w' ∧ w.heap.size ≤ g

theorem Row.bat {w : World} {ao : Option Addr} {n cap g : Nat} {bs : List UInt8} (h : Row w (.slice ao n cap) g bs) (hfit : bs.length ≤ 140737488355328) : n = bs.length ∧ BAt w ao cap bs := by
  obtain ⟨ao0, cap0, hv0, h1, h2, h3, h4⟩ := h.shape
  injection hv0 with e1 e2 e3
  subst e1 e3
  refine ⟨e2, fun e => ?_, fun h0 => ⟨g, 0, h3 (by omega), fun j hj => by rw [Nat.zero_add]; exact h.cells j hj⟩, hfit⟩
  have : ¬ 0 < cap := fun hc => by rw [h3 hc] at e; cases e
  omega

theorem conv_bytes {w : World} {ao : Option Addr} {cap : Nat} {bs : List UInt8} (h : BAt w ao cap bs) : (convert 22 9 (.slice ao bs.length cap)).run Tryd.prog w = .ok (.string ⟨bs.toArray⟩) w := by
  by_cases hk : 0 < bs.length
  · obtain ⟨b, off, rfl, hc⟩ := h.2.1 hk
    refine run_convert_bytes_back (P := Tryd.prog) w 22 9 5 ⟨b, off, none⟩ cap bs Tryd.underlying22 Tryd.underlying5 Tryd.underlying9 (fun j hj => ?_)
    rw [Addr.add_lit]
    exact hc j hj
  · obtain rfl : bs = [] := List.eq_nil_of_length_eq_zero (by omega)
    cases ao with
    | none =>
      rw [show ([] : List UInt8).length = 0 from rfl, run_convert_bytes_nil w 22 5 Tryd.underlying22 Tryd.underlying5 0 cap 9 Tryd.underlying9]
      rfl
    | some x => exact run_convert_bytes_back (P := Tryd.prog) w 22 9 5 x cap [] Tryd.underlying22 Tryd.underlying5 Tryd.underlying9 (fun j hj => by simp at hj)

theorem Row.fresh (w : World) (bs : List UInt8) (t : TypeId) (hm : bs.length ≤ maxLen) : Row (w.alloc (.cells (bytesV bs).toArray t)) (.slice (some ⟨w.heap.size, 0, none⟩) bs.length bs.length) w.heap.size bs := by
  have hc : ∀ j (hj : j < bs.length), (w.alloc (.cells (bytesV bs).toArray t)).cell? ⟨w.heap.size, j, none⟩ = some (.int .u8 (bs[j].toNat)) := fun j hj => by
    rw [World.cell?_alloc_new, List.getElem?_toArray, bytesV_get _ _ hj]
  exact ⟨⟨_, _, rfl, Nat.le_refl _, hm, fun _ => rfl, fun j hj => ⟨by rw [hc j hj]; rfl, World.frozen?_alloc_new _ _ _ _⟩⟩, hc⟩

theorem Row.empty {w : World} {g C : Nat} (hm : C ≤ maxLen) (hr : ∀ j, j < C → (w.cell? ⟨g, j, none⟩).isSome = true ∧ w.frozen? ⟨g, j, none⟩ = false) : Row w (.slice (some ⟨g, 0, none⟩) 0 C) g [] :=
  ⟨⟨_, _, rfl, Nat.zero_le _, hm, fun _ => rfl, hr⟩, fun j hj => absurd hj (by simp)⟩


/-- A hash's cells: eight words, a block, how many bytes. -/
def hcell (f : Nat → Nat) (blk : Nat → UInt8) (n j : Nat) : Value := if j < 8 then .int .u32 (f j) else if j < 72 then .int .u8 (blk (j - 8)).toNat else .int .i64 n

theorem hcell_one (f : Nat → Nat) (blk : Nat → UInt8) (n j : Nat) : (hcell f blk n j).oneCell' = true := by
  unfold hcell
  split
  · rfl
  · split <;> rfl

/-- A hash that has taken bytes. -/
def HAt (w : World) (p : Nat) (bs : List UInt8) : Prop := ∃ blk, Blk w p 55 73 (hcell (absorb bs (bs.length / 64)) blk bs.length) ∧ ∀ j, j < bs.length % 64 → blk j = bs.getD (64 * (bs.length / 64) + j) 0

theorem HAt.lt {w : World} {p : Nat} {bs : List UInt8} (h : HAt w p bs) : p < w.heap.size := by obtain ⟨_, h, _⟩ := h; exact h.lt
theorem HAt.frame {S : Nat → Prop} {w w' : World} {p : Nat} {bs : List UInt8} (h : HAt w p bs) (hF : Fr S w w') (hn : ¬ S p) : HAt w' p bs := by
  obtain ⟨blk, h1, h2⟩ := h
  exact ⟨blk, h1.frame hF hn, h2⟩
theorem HAt.later {w w' : World} {p : Nat} {bs : List UInt8} (h : HAt w p bs) (hF : Fr (fun _ => False) w w') : HAt w' p bs := h.frame hF (fun t => t)

/-- A new hash comes out. -/
def NewH (w : World) (bs : List UInt8) (p : Nat) (w' : World) : Prop := HAt w' p bs ∧ Fr (fun _ => False) w w' ∧ w.heap.size ≤ p

/-- An array's load out of the middle of a block. -/
theorem wpList_load_arr {P : Program} {ops : Array Oper} {rest : List Oper} {op : Oper} {a : Act} {w : World} {Q : Exit → Act → World → Prop} (hgd : op.guard = none) (ty : TypeId) (x : Operand) (ho : op.op = .load ty x)
    (b o : Nat) (hx : a.eval x = .pointer (some ⟨b, o, none⟩)) (n : Nat) (f : Nat → Value) (d : TypeDesc) (hc : ∀ j, j < n → w.cell? ⟨b, o + j, none⟩ = some (f j))
    (hu : P.underlying ty = some d) (hd : d.isRow = true) (hi : (P.info? ty).map (·.size) = some n)
    (h : wpList P ops Q rest (a.put op.dst (.agg (arr n f))) w) : wpList P ops Q (op :: rest) a w := by
  refine wpList_load_mid hgd ty x ho b o hx (arr n f).toList d (fun j v hv => ?_) hu hd (by rw [Array.length_toList, arr_size]; exact hi) (by rw [Array.toArray_toList]; exact h)
  rw [Array.getElem?_toList] at hv
  by_cases hj : j < n
  · rw [arr_get n f j hj] at hv
    rw [← hv]
    exact hc j hj
  · rw [Array.getElem?_eq_none (by rw [arr_size]; omega)] at hv
    cases hv

theorem built_hash : Tryd.prog.built 55 [(0, .agg (arr 8 (wv hw0)))] = some (arr 73 (hcell hw0 (fun _ => 0) 0)) := by kernel_rfl
theorem n51 : (Tryd.prog.info? 51).map (·.size) = some 8 := by kernel_rfl
theorem n53 : (Tryd.prog.info? 53).map (·.size) = some 64 := by kernel_rfl
theorem n55 : (Tryd.prog.info? 55).map (·.size) = some 73 := by kernel_rfl
theorem size55 (f : Nat → Value) : (Tryd.prog.info? 55).map (·.size) = some (arr 73 f).size := by rw [arr_size]; exact n55

theorem wpList_build_known {P : Program} {ops : Array Oper} {rest : List Oper} {o : Oper} {a : Act} {w : World} {Q : Exit → Act → World → Prop} (hg : o.guard = none) (t : TypeId) (parts : Array (Nat × Operand)) (ho : o.op = .build t parts)
    (cells : Array Value) (hb : P.built t (parts.map fun (i, x) => (i, a.eval x)).toList = some cells)
    (h : wpList P ops Q rest (a.put o.dst (.agg cells)) w) : wpList P ops Q (o :: rest) a w :=
  wpList_build hg t parts ho (by rw [hb]; rfl) (by rw [hb]; exact h)

theorem zero55 (w : World) : (zeroValue 55).run Tryd.prog w = .ok (.agg (arr 73 (hcell (fun _ => 0) (fun _ => 0) 0))) w := by kernel_rfl

theorem new_any (w : World) (hT : TabP w) : Calls Tryd.prog 30 #[] w fun e w' => ∃ p, e = .returned (.pointer (some ⟨p, 0, none⟩)) ∧ NewH w [] p w' := by
  have HT := hide hT
  clear hT
  have HB := hide built_hash
  go_enter Tryd.func30, Tryd.ntmps30
  go_wp2_with (first | refine wpList_load_arr rfl 51 (.global 1) rfl 1 0 rfl 8 (wv hw0) _ (fun j hj => by rw [Nat.zero_add]; exact (unhide HT).1 j hj) Tryd.underlying51 rfl n51 ?_ | refine wpList_build_known rfl 55 #[(0, .tmp 1)] rfl (arr 73 (hcell hw0 (fun _ => 0) 0)) ?hb ?nx)
  case hb => simpa [Act.eval] using unhide HB
  go_wp2
  go_ret
  exact ⟨w.heap.size, rfl, ⟨fun _ => 0, Blk.new w 55 73 _, fun j hj => absurd hj (by simp)⟩, (Fr.refl _ w).alloc _, Nat.le_refl _⟩

theorem clone_any (w : World) (p : Nat) (bs : List UInt8) (hH : HAt w p bs) : Calls Tryd.prog 38 #[.pointer (some ⟨p, 0, none⟩)] w fun e w' => ∃ q, e = .returned (.pointer (some ⟨q, 0, none⟩)) ∧ NewH w bs q w' := by
  obtain ⟨blk, hb, hblk⟩ := hH
  have h1 : (arr 73 (hcell (absorb bs (bs.length / 64)) blk bs.length)).all (·.oneCell') = true := arr_one _ _ (hcell_one _ _ _)
  have HB := hide (And.intro hb h1)
  have HK := hide hblk
  clear hb hblk h1
  obtain ⟨F, hF⟩ : ∃ F, F = hcell (absorb bs (bs.length / 64)) blk bs.length := ⟨_, rfl⟩
  rw [← hF] at HB
  have HF := hide hF
  clear hF
  have hz := zero55
  go_enter Tryd.func38, Tryd.ntmps38
  go_wp2_with (first | refine wpList_load_row rfl 55 (.tmp 5) rfl p rfl 55 (arr 73 F) (0, 0) _ (unhide HB).1 Tryd.underlying55 rfl (size55 _) ?_ | refine wpList_store_row rfl 55 (.tmp 3) (.tmp 6) rfl w.heap.size (arr 73 F) rfl rfl 55 (arr 73 (hcell (fun _ => 0) (fun _ => 0) 0)) (Blk.new w 55 73 _) (size55 _) (by rw [arr_size, arr_size]) (unhide HB).2 ?_)
  go_ret
  exact ⟨w.heap.size, rfl, ⟨blk, by rw [← unhide HF]; exact (Blk.new w 55 73 _).row F, unhide HK⟩, ((Fr.refl _ w).alloc _).setRow (fun t => absurd t (Nat.lt_irrefl _)) _, Nat.le_refl _⟩

end Go.Proofs.YtgklgbomfipagaaDoor
