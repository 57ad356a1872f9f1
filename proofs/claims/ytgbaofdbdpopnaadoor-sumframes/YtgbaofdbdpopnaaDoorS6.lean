/- Contracts: the turns' array: eightTurns, twice. -/
import Derived.Test.YtgbaofdbdpopnaaDoorS5
namespace Go.Proofs.YtgbaofdbdpopnaaDoor
open Go.RowKit

/-- A block that holds an array. -/
def Blk (w : World) (g : Nat) (f : Nat → Nat) : Prop := w.heap[g]? = some (.cells (arr f) 49 (0, 0))

theorem Blk.lt {w : World} {g : Nat} {f : Nat → Nat} (h : Blk w g f) : g < w.heap.size := by
  by_cases hlt : g < w.heap.size
  · exact hlt
  · have hn : w.heap[g]? = none := by simp; omega
    rw [Blk, hn] at h
    cases h
theorem Blk.frame {S : Nat → Prop} {w w' : World} {g : Nat} {f : Nat → Nat} (h : Blk w g f) (hF : Fr S w w') (hn : ¬ S g) : Blk w' g f := (hF.block g h.lt hn).trans h
theorem Blk.alloc {w : World} {g : Nat} {f : Nat → Nat} (h : Blk w g f) (o : Obj) : Blk (w.alloc o) g f := (Below.heap_alloc _ _ _ h.lt).trans h
theorem Blk.new (w : World) (f : Nat → Nat) : Blk (w.alloc (.cells (arr f) 49)) w.heap.size f := heap_alloc_new w _
theorem Blk.cell {w : World} {g : Nat} {f : Nat → Nat} (h : Blk w g f) (j : Nat) (hj : j < 32) : w.cell? ⟨g, j, none⟩ = some (.int .u32 (f j)) := (cell_of_row w g j _ 49 _ h).trans (arr_get f j hj)
theorem Blk.frozen {w : World} {g : Nat} {f : Nat → Nat} (h : Blk w g f) (j : Nat) : w.frozen? ⟨g, j, none⟩ = false := frozen_of_row w g j _ 49 h
theorem Blk.set {w : World} {g : Nat} {f : Nat → Nat} (h : Blk w g f) (i : Nat) (hi : i < 32) (v : Nat) : Blk (w.setCell ⟨g, i, none⟩ (.int .u32 v)) g (fun j => if j = i then v else f j) := by
  rw [Blk, heap_setCell_same w g i _ 49 _ h, arr_set f i hi]
theorem Blk.other {w : World} {g : Nat} {f : Nat → Nat} (h : Blk w g f) (a : Addr) (v : Value) (hn : g ≠ a.block) : Blk (w.setCell a v) g f := (heap_setCell_other w a g v hn).trans h
theorem Blk.same {w : World} {g : Nat} {f f' : Nat → Nat} (h : Blk w g f) (e : ∀ j, j < 32 → f j = f' j) : Blk w g f' := by
  have : arr f = arr f' := by
    apply Array.ext_getElem?
    intro j
    by_cases hj : j < 32
    · rw [arr_get _ _ hj, arr_get _ _ hj, e j hj]
    · rw [Array.getElem?_eq_none (by rw [arr_size]; omega), Array.getElem?_eq_none (by rw [arr_size]; omega)]
  rw [Blk, ← this]; exact h
theorem Blk.row {w : World} {g : Nat} {f : Nat → Nat} (h : Blk w g f) (f' : Nat → Nat) : Blk (w.setRow g (arr f')) g f' := setRow_heap w g _ _ 49 _ h
theorem Fr.setRow {S : Nat → Prop} {a w : World} (h : Fr S a w) {g : Nat} (hg : g < a.heap.size → S g) (cs : Array Value) : Fr S a (w.setRow g cs) :=
  h.trans (T := fun k => k = g) ⟨rfl, rfl, rfl, by simp, fun k _ hn => setRow_other w g k cs hn⟩ (fun i hi t => by subst t; exact hg hi)

theorem size49 : (Tryd.prog.info? 49).map (·.size) = some 32 := (zero_of_info Tryd.info49).2
theorem zero49 (w : World) : (zeroValue 49).run Tryd.prog w = .ok (.agg (arr fun _ => 0)) w := (zero_of_info Tryd.info49).1 w
theorem size49' (f : Nat → Nat) : (Tryd.prog.info? 49).map (·.size) = some (arr f).size := by rw [arr_size]; exact size49

theorem arr_zero : (arr fun _ => 0) = #[.int .u32 0, .int .u32 0, .int .u32 0, .int .u32 0, .int .u32 0, .int .u32 0, .int .u32 0, .int .u32 0, .int .u32 0, .int .u32 0, .int .u32 0, .int .u32 0, .int .u32 0, .int .u32 0, .int .u32 0, .int .u32 0, .int .u32 0, .int .u32 0, .int .u32 0, .int .u32 0, .int .u32 0, .int .u32 0, .int .u32 0, .int .u32 0, .int .u32 0, .int .u32 0, .int .u32 0, .int .u32 0, .int .u32 0, .int .u32 0, .int .u32 0, .int .u32 0] := by kernel_rfl

/-- Where a function that makes an array has come to: the array so far, and the cell of its result. -/
def Making (w wr : World) (r p i : Nat) (F : Nat → Nat) : Prop := Blk wr p (fun j => if j < i then F j else 0) ∧ Blk wr r (fun _ => 0) ∧ Fr (fun _ => False) w wr ∧ w.heap.size ≤ r ∧ w.heap.size ≤ p ∧ r ≠ p

theorem Making.next {w wr : World} {r p i : Nat} {F : Nat → Nat} (h : Making w wr r p i F) (hi : i < 32) : Making w (wr.setCell ⟨p, i, none⟩ (.int .u32 (F i))) r p (i + 1) F := by
  obtain ⟨h1, h2, h3, h4, h5, h6⟩ := h
  refine ⟨(h1.set i hi (F i)).same (fun j hj => ?_), h2.other _ _ h6, h3.setCell (p := ⟨p, i, none⟩) (fun t => absurd t (by simp only []; omega)) _, h4, h5, h6⟩
  by_cases e : j = i
  · subst e; rw [if_pos rfl, if_pos (by omega)]
  · rw [if_neg e]
    by_cases h2 : j < i
    · rw [if_pos h2, if_pos (by omega)]
    · rw [if_neg h2, if_neg (by omega)]

theorem Making.later {w wr wr' : World} {r p i : Nat} {F : Nat → Nat} (h : Making w wr r p i F) (hF : Fr (fun _ => False) wr wr') : Making w wr' r p i F := by
  obtain ⟨h1, h2, h3, h4, h5, h6⟩ := h
  exact ⟨h1.frame hF (fun t => t), h2.frame hF (fun t => t), h3.trans hF (fun _ _ t => t), h4, h5, h6⟩

theorem Making.full {w wr : World} {r p : Nat} {F : Nat → Nat} (h : Making w wr r p 32 F) : Blk wr p F ∧ Blk wr r (fun _ => 0) ∧ Fr (fun _ => False) w (wr.setRow r (arr F)) := by
  obtain ⟨h1, h2, h3, h4, h5, h6⟩ := h
  exact ⟨h1.same (fun j hj => if_pos hj), h2, h3.setRow (fun t => absurd t (by omega)) _⟩

theorem twice_any (w : World) (k : Nat) :
    Calls Tryd.prog 36 #[.agg (arr fun j => trn k (2 ^ j))] w fun e w' => e = .returned (.agg (arr fun j => trn (k + k) (2 ^ j))) ∧ Fr (fun _ => False) w w' := by
  have hF : (fun j => trn (k + k) (2 ^ j)) = fun j => trn k (trn k (2 ^ j)) := funext fun j => trn_add k k _
  rw [hF]
  clear hF
  obtain ⟨F, hF⟩ : ∃ F : Nat → Nat, F = fun j => trn k (trn k (2 ^ j)) := ⟨_, rfl⟩
  obtain ⟨f, hf⟩ : ∃ f : Nat → Nat, f = fun j => trn k (2 ^ j) := ⟨_, rfl⟩
  rw [← hF, ← hf]
  have HF := hide hF
  have Hf := hide hf
  clear hF hf
  go_enter Tryd.func36, Tryd.ntmps36
  go_wp2_with (refine wpList_load_row rfl 49 (.tmp 1) rfl w.heap.size rfl 49 (arr f) (0, 0) _ ?hb Tryd.underlying49 rfl (size49' _) ?next)
  case hb =>
    rw [← arr_zero]
    exact Blk.alloc (Blk.alloc (Blk.new w f) (.cells (arr fun _ => 0) 49)) (.cells (arr fun _ => 0) 49)
  rw [← arr_zero]
  have hA := ((Blk.new w f).alloc (.cells (arr fun _ => 0) 49)).alloc (.cells (arr fun _ => 0) 49)
  have hM : Making w (((w.alloc (.cells (arr f) 49)).alloc (.cells (arr fun _ => 0) 49)).alloc (.cells (arr fun _ => 0) 49)) (w.heap.size + 1) (w.heap.size + 1 + 1) 0 F := by
    have e1 : (w.alloc (.cells (arr f) 49)).heap.size = w.heap.size + 1 := by simp
    have e2 : ((w.alloc (.cells (arr f) 49)).alloc (.cells (arr fun _ => 0) 49)).heap.size = w.heap.size + 1 + 1 := by simp
    have b1 := (Blk.new (w.alloc (.cells (arr f) 49)) (fun _ => 0)).alloc (.cells (arr fun _ => 0) 49)
    have b2 := Blk.new ((w.alloc (.cells (arr f) 49)).alloc (.cells (arr fun _ => 0) 49)) (fun _ => 0)
    rw [e1] at b1
    rw [e2] at b2
    exact ⟨b2.same (fun j _ => by simp), b1, (((Fr.refl _ w).alloc _).alloc _).alloc _, by omega, by omega, by omega⟩
  have hne : w.heap.size ≠ w.heap.size + 1 + 1 := by omega
  have HM := hide (And.intro hA (And.intro hne hM))
  clear hA hM hne
  generalize (((w.alloc (.cells (arr f) 49)).alloc (.cells (arr fun _ => 0) 49)).alloc (.cells (arr fun _ => 0) 49)) = w0 at *
  generalize w.heap.size + 1 + 1 = p at *
  generalize w.heap.size + 1 = r at *
  obtain ⟨b, hb⟩ : ∃ b, w.heap.size = b := ⟨_, rfl⟩
  rw [hb] at HM ⊢
  go_wp2
  go_loopw [7] (fun iv wr => ∃ i : Nat, i ≤ 32 ∧ iv = .int .i64 i ∧ Hid (Blk wr b f ∧ b ≠ p ∧ Making w wr r p i F)) (fun iv _ => 32 - (intOf iv).toNat)
  case atStart => exact ⟨0, Nat.zero_le _, rfl, unhide HM⟩
  case round =>
    obtain ⟨i, hi, rfl, HS⟩ := hrel
    by_cases hlt : i < 32
    · have hix := fun w => run_index_arr w (arr f) i hlt _ (arr_get f i hlt)
      go_wp2_with (refine wpList_load_row rfl 49 (.tmp 1) rfl b rfl 49 (arr f) (0, 0) _ (unhide HS).1 Tryd.underlying49 rfl (size49' _) ?_)
      go_wp2_with fail
      have hof := of_any wr k (f i) (by rw [unhide Hf]; exact trn_lt k (Nat.pow_lt_pow_right (by omega) hlt))
      rw [← unhide Hf] at hof
      refine hof.mono ?_
      rintro e w1 ⟨rfl, hF1⟩
      have hFi : trn k (f i) = F i := by rw [unhide Hf, unhide HF]
      rw [hFi]
      have HS1 := hide (And.intro ((unhide HS).1.frame hF1 (fun t => t)) (And.intro (unhide HS).2.1 ((unhide HS).2.2.later hF1)))
      clear hF1 hof hFi
      have ci := (unhide HS1).2.2.1.cell i hlt
      have fi := (unhide HS1).2.2.1.frozen i
      go_wp2
      exact ⟨⟨i + 1, by omega, by go_num, (unhide HS1).1.other _ _ (unhide HS1).2.1, (unhide HS1).2.1, (unhide HS1).2.2.next hlt⟩, by simp [intOf]; omega⟩
    · obtain rfl : i = 32 := by omega
      obtain ⟨k1, k2, k3⟩ := (unhide HS).2.2.full
      have HQ := hide (And.intro k1 (And.intro k2 k3))
      clear k1 k2 k3
      go_wp2_with (first | refine wpList_load_row rfl 49 (.tmp 3) rfl p rfl 49 (arr F) (0, 0) _ (unhide HQ).1 Tryd.underlying49 rfl (size49' _) ?_ | refine wpList_store_row rfl 49 (.tmp 2) (.tmp 17) rfl r (arr F) rfl rfl 49 (arr fun _ => 0) (unhide HQ).2.1 (size49' _) (by rw [arr_size, arr_size]) (arr_one _) ?_)
      refine bodyPost_ret (results_cell_row rfl _ _ r 49 (arr F) (0, 0) _ rfl ((unhide HQ).2.1.row F) Tryd.underlying49 rfl (size49' _)) rfl ?_
      exact ⟨rfl, (unhide HQ).2.2⟩

theorem two_pow (i : Nat) : ((2 ^ i : Nat) : Int) = (2 : Int) ^ i := by rw [Int.natCast_pow]; rfl
theorem shl_one (i : Nat) (hi : i < 32) : (2 : Int) ^ i % 4294967296 = (2 : Int) ^ i := by
  have h : 2 ^ i < 2 ^ 32 := Nat.pow_lt_pow_right (by omega) hi
  rw [← two_pow]
  generalize 2 ^ i = m at *
  omega

theorem eight_any (w : World) (hT : TabAt w) :
    Calls Tryd.prog 34 #[] w fun e w' => e = .returned (.agg (arr fun j => trn 8 (2 ^ j))) ∧ Fr (fun _ => False) w w' := by
  have HT := hide hT
  clear hT
  obtain ⟨F, hF⟩ : ∃ F : Nat → Nat, F = fun j => trn 8 (2 ^ j) := ⟨_, rfl⟩
  rw [← hF]
  have HF := hide hF
  clear hF
  go_enter Tryd.func34, Tryd.ntmps34
  go_wp2_with fail
  rw [← arr_zero]
  have hM : Making w ((w.alloc (.cells (arr fun _ => 0) 49)).alloc (.cells (arr fun _ => 0) 49)) w.heap.size (w.heap.size + 1) 0 F := by
    have e1 : (w.alloc (.cells (arr fun _ => 0) 49)).heap.size = w.heap.size + 1 := by simp
    have b1 := (Blk.new w (fun _ => 0)).alloc (.cells (arr fun _ => 0) 49)
    have b2 := Blk.new (w.alloc (.cells (arr fun _ => 0) 49)) (fun _ => 0)
    rw [e1] at b2
    exact ⟨b2.same (fun j _ => by simp), b1, ((Fr.refl _ w).alloc _).alloc _, by omega, by omega, by omega⟩
  have HM := hide hM
  clear hM
  generalize ((w.alloc (.cells (arr fun _ => 0) 49)).alloc (.cells (arr fun _ => 0) 49)) = w0 at *
  generalize w.heap.size + 1 = p at *
  obtain ⟨r, hr⟩ : ∃ r, w.heap.size = r := ⟨_, rfl⟩
  rw [hr] at HM ⊢
  go_wp2
  go_loopw [3] (fun iv wr => ∃ i : Nat, i ≤ 32 ∧ iv = .int .i64 i ∧ Hid (Making w wr r p i F)) (fun iv _ => 32 - (intOf iv).toNat)
  case atStart => exact ⟨0, Nat.zero_le _, rfl, unhide HM⟩
  case round =>
    obtain ⟨i, hi, rfl, HS⟩ := hrel
    by_cases hlt : i < 32
    · have hs1 := shl_one i hlt
      go_wp2_with fail
      have h8 := turned8_any wr ((unhide HT).later (unhide HS).2.2.1) (2 ^ i) (Nat.pow_lt_pow_right (by omega) hlt)
      rw [two_pow, show trn 8 (2 ^ i) = F i by rw [unhide HF]] at h8
      refine h8.mono ?_
      rintro e w1 ⟨rfl, rfl⟩
      clear h8 hs1
      have ci := (unhide HS).1.cell i hlt
      have fi := (unhide HS).1.frozen i
      go_wp2
      exact ⟨⟨i + 1, by omega, by go_num, (unhide HS).next hlt⟩, by simp [intOf]; omega⟩
    · obtain rfl : i = 32 := by omega
      obtain ⟨k1, k2, k3⟩ := (unhide HS).full
      have HQ := hide (And.intro k1 (And.intro k2 k3))
      clear k1 k2 k3
      go_wp2_with (first | refine wpList_load_row rfl 49 (.tmp 1) rfl p rfl 49 (arr F) (0, 0) _ (unhide HQ).1 Tryd.underlying49 rfl (size49' _) ?_ | refine wpList_store_row rfl 49 (.tmp 0) (.tmp 12) rfl r (arr F) rfl rfl 49 (arr fun _ => 0) (unhide HQ).2.1 (size49' _) (by rw [arr_size, arr_size]) (arr_one _) ?_)
      refine bodyPost_ret (results_cell_row rfl _ _ r 49 (arr F) (0, 0) _ rfl ((unhide HQ).2.1.row F) Tryd.underlying49 rfl (size49' _)) rfl ?_
      exact ⟨rfl, (unhide HQ).2.2⟩

end Go.Proofs.YtgbaofdbdpopnaaDoor
