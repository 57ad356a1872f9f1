import Derived.Test.YtlhgfnpialndaaaE2
/- Records as bytes, and the way back: written, taken, the exported calls. -/
namespace Go.Proofs.Ytlhgfnpialndaaa
open Go.RowKit

/-- A writer's word on its bytes. -/
def codeOf (s : Option (List UInt8)) : Int := if s.isSome then 0 else 1

/-- What a call that writes a record comes to. -/
def Wrote (w : World) (bs : List UInt8) (c : Int) (e : Ending) (w' : World) : Prop :=
  ∃ ao cap gb, e = .returned (.tuple #[.slice ao bs.length cap, .int .i64 c]) ∧ Row w' (.slice ao bs.length cap) gb bs ∧ (0 < cap → w.heap.size ≤ gb) ∧ Fr (fun _ => False) w w'

theorem Wrote.later {w w1 w' : World} {bs : List UInt8} {c : Int} {e : Ending} (hf : Fr (fun _ => False) w w1) (h : Wrote w1 bs c e w') : Wrote w bs c e w' := by
  obtain ⟨ao, cap, gb, h1, h2, h3, h4⟩ := h
  exact ⟨ao, cap, gb, h1, h2, fun hc => Nat.le_trans hf.size (h3 hc), hf.trans h4 (fun _ _ t => t)⟩

theorem wbytes {w : World} {p g : Nat} {s : Option (List UInt8)} (h : WSt w p g s) (L : Nat) (hL : Most s L) (hf : L ≤ 140737488355328) : Calls Try.prog 46 #[.pointer (some ⟨p, 0, none⟩)] w (Wrote w (s.getD []) (codeOf s)) := by
  cases s with
  | some bs =>
    refine (bytes_ok h (Nat.le_trans (hL bs rfl) hf)).mono ?_
    rintro e w' ⟨v, g', rfl, hr, hF, hg⟩
    obtain ⟨ao, cap, rfl, _⟩ := hr.shape
    exact ⟨ao, cap, g', rfl, hr, fun _ => hg, hF⟩
  | none =>
    refine (bytes_bad h).mono ?_
    rintro e w' ⟨rfl, rfl⟩
    exact ⟨none, 0, 0, rfl, Row.nil _ _, fun h => absurd h (by omega), Fr.refl _ _⟩

theorem WP.fresh {p g : Nat} {st : Option (List UInt8)} {w w1 w2 : World} (hf : Fr (fun _ => False) w w1) (hp : w.heap.size ≤ p) (hg : w.heap.size ≤ g) (h : WP p g st w1 w2) : Fr (fun _ => False) w w2 := by
  obtain ⟨g', _, _, _, h4⟩ := h
  exact hf.trans h4 (fun i hi t => by omega)

/-- Bytes that are handed in. -/
structure BIn (w : World) (ao : Option Addr) (cap : Nat) (bs : List UInt8) : Prop where
  nil : ao = none → bs.length = 0 ∧ cap = 0
  cell : 0 < bs.length → ∃ b off, ao = some ⟨b, off, none⟩ ∧ ∀ j (hj : j < bs.length), w.cell? ⟨b, off + j, none⟩ = some (.int .u8 (bs[j].toNat))
  fit : bs.length ≤ 140737488355328

theorem BIn.keep {w w' : World} {ao : Option Addr} {cap : Nat} {bs : List UInt8} (h : BIn w ao cap bs) (hf : Fr (fun _ => False) w w') : BIn w' ao cap bs :=
  ⟨h.nil, fun h0 => by
    obtain ⟨b, off, e, hc⟩ := h.cell h0
    exact ⟨b, off, e, fun j hj => (hf.cell (a := ⟨b, off + j, none⟩) (World.block_lt_of_cell? _ _ (hc j hj)) (fun t => t)).trans (hc j hj)⟩, h.fit⟩

theorem Row.bin {w : World} {ao : Option Addr} {cap g : Nat} {bs : List UInt8} (h : Row w (.slice ao bs.length cap) g bs) (hf : bs.length ≤ 140737488355328) : BIn w ao cap bs := by
  obtain ⟨ao', cap', e, h1, h2, h3, h4⟩ := h.shape
  injection e with e1 e2 e3
  subst e1 e3
  refine ⟨fun e => ?_, fun h0 => ⟨g, 0, h3 (by omega), fun j hj => by rw [Nat.zero_add]; exact h.cells j hj⟩, hf⟩
  have : ¬ 0 < cap := fun hc => by rw [h3 hc] at e; cases e
  omega

/-- End, where nothing is left out of sight: the fault, in a new box. -/
def EndD (w : World) (p : Nat) (bs : List UInt8) (s : RS) (e : Ending) (w' : World) : Prop :=
  e = .returned (.agg #[.int .i64 (endR s bs.length).c, .int .i64 (endR s bs.length).f]) ∧ Fr (· = p) w w'

def tapB (t : Tp) : Option (List UInt8) := wrL tapK (tpC t).toList
/-- What writing answers. -/
def tapW (t : Tp) : List UInt8 × Int := if tapOk t then ((tapB t).getD [], codeOf (tapB t)) else ([], 80)

theorem tapW_le (t : Tp) : (tapW t).1.length ≤ 1000 := by
  unfold tapW
  split
  · cases h : tapB t with
    | none => simp
    | some bs =>
      have := Most.wr tapK (tpC t).toList bs h
      simp only [wide, List.foldr, Kd.n] at this
      simp only [Option.getD_some]
      omega
  · simp

def entryB (t : En) : Option (List UInt8) := wrL entryK (enC t).toList
/-- What writing answers. -/
def entryW (t : En) : List UInt8 × Int := if entryOk t then ((entryB t).getD [], codeOf (entryB t)) else ([], 80)

theorem entryW_le (t : En) : (entryW t).1.length ≤ 1000 := by
  unfold entryW
  split
  · cases h : entryB t with
    | none => simp
    | some bs =>
      have := Most.wr entryK (enC t).toList bs h
      simp only [wide, List.foldr, Kd.n] at this
      simp only [Option.getD_some]
      omega
  · simp

def accountB (t : Ac) : Option (List UInt8) := wrL accountK (acC t).toList
/-- What writing answers. -/
def accountW (t : Ac) : List UInt8 × Int := if accountOk t then ((accountB t).getD [], codeOf (accountB t)) else ([], 80)

theorem accountW_le (t : Ac) : (accountW t).1.length ≤ 1000 := by
  unfold accountW
  split
  · cases h : accountB t with
    | none => simp
    | some bs =>
      have := Most.wr accountK (acC t).toList bs h
      simp only [wide, List.foldr, Kd.n] at this
      simp only [Option.getD_some]
      omega
  · simp

set_option maxHeartbeats 1000000 in
theorem writtenAccount_any (t : Ac) (w : World) :
    Calls Try.prog 39 #[.agg (acC t), .func (Fn.func 40) #[] #[], .func (Fn.func 41) #[] #[]] w (Wrote w (accountW t).1 (accountW t).2) := by
  have R := hide (accountError_any t)
  have HN := hide (account_small t)
  obtain ⟨b, hb⟩ : ∃ b, accountOk t = b := ⟨_, rfl⟩
  have HA : Hid (accountW t = if b then ((accountB t).getD [], codeOf (accountB t)) else ([], 80)) := hide (by unfold accountW; rw [hb])
  have HE : Hid (accountE t = if b then 0 else 80) := hide (by unfold accountE; rw [hb])
  have HK := hide hb
  have HBT : Hid (accountB t = wrL accountK (acC t).toList) := hide rfl
  rw [unhide HE] at R
  rw [unhide HA]
  generalize hX : accountB t = X at HBT ⊢
  clear HA HE hb hX
  unfold acC at *
  obtain ⟨tok, charged, paid⟩ := t
  simp only at R HN HK HBT ⊢
  cases b
  · simp only [Bool.false_eq_true, if_false] at R ⊢
    go_enter Try.func39, Try.ntmps39
    go_wp2_with fail
    refine (unhide R _).mono ?_
    rintro e w1 ⟨rfl, hF⟩
    have HB1 := hide ((Bx.new w #[.string tok, .int .i64 charged, .int .i64 paid] 26).keep hF)
    have HF1 : Hid (Fr (fun _ => False) w w1) := hide (((Fr.refl _ w).alloc _).trans hF (fun _ _ t => t))
    obtain ⟨B, HB⟩ : ∃ B, Hid (w.heap.size = B) := ⟨_, rfl⟩
    have HBL : Hid (B < w1.heap.size) := hide (by rw [← unhide HB]; exact (unhide HB1).lt)
    rw [unhide HB] at HB1 ⊢
    clear hF
    go_wp2
    go_ret2
    exact ⟨none, 0, 0, rfl, Row.nil _ _, fun h => absurd h (by omega), unhide HF1⟩
  · simp only [if_true] at R ⊢
    go_enter Try.func39, Try.ntmps39
    go_wp2_with fail
    refine (unhide R _).mono ?_
    rintro e w1 ⟨rfl, hF⟩
    have HB1 := hide ((Bx.new w #[.string tok, .int .i64 charged, .int .i64 paid] 26).keep hF)
    have HF1 : Hid (Fr (fun _ => False) w w1) := hide (((Fr.refl _ w).alloc _).trans hF (fun _ _ t => t))
    obtain ⟨B, HB⟩ : ∃ B, Hid (w.heap.size = B) := ⟨_, rfl⟩
    have HBL : Hid (B < w1.heap.size) := hide (by rw [← unhide HB]; exact (unhide HB1).lt)
    rw [unhide HB] at HB1 ⊢
    clear hF
    obtain ⟨hn0, hn1⟩ := unhide HN (unhide HK)
    go_wp2_with fail
    refine (newwriter_any _).mono ?_
    rintro e w2 ⟨rfl, rfl⟩
    have HW2 : Hid (WB ((w1.alloc (.cells #[.slice none 0 0, .bool false] 98)).alloc (.cells #[.pointer (some ⟨w1.heap.size, 0, none⟩), .pointer none] 82)) w1.heap.size w1.heap.size B (some []) #[.string tok, .int .i64 charged, .int .i64 paid] 26) :=
      hide ⟨WSt.alloc (show WSt _ _ _ (some []) from newW) _, ((unhide HB1).alloc _).alloc _, by have := unhide HBL; omega, by have := unhide HBL; omega, by rw [heap_alloc, heap_alloc]; omega⟩
    have HN2 : Hid (Bx ((w1.alloc (.cells #[.slice none 0 0, .bool false] 98)).alloc (.cells #[.pointer (some ⟨w1.heap.size, 0, none⟩), .pointer none] 82)) (w1.heap.size + 1) #[.pointer (some ⟨w1.heap.size, 0, none⟩), .pointer none] 82) := hide (by
      have := Bx.new (w1.alloc (.cells #[.slice none 0 0, .bool false] 98)) #[.pointer (some ⟨w1.heap.size, 0, none⟩), .pointer none] 82
      rw [heap_alloc] at this
      exact this)
    have HF2 : Hid (Fr (fun _ => False) w ((w1.alloc (.cells #[.slice none 0 0, .bool false] 98)).alloc (.cells #[.pointer (some ⟨w1.heap.size, 0, none⟩), .pointer none] 82))) := hide (((unhide HF1).alloc _).alloc _)
    go_wp2_with fail
    generalize ((w1.alloc (.cells #[.slice none 0 0, .bool false] 98)).alloc (.cells #[.pointer (some ⟨w1.heap.size, 0, none⟩), .pointer none] 82)) = w2 at *
    obtain ⟨p, Hp⟩ : ∃ p, Hid (w1.heap.size = p) := ⟨_, rfl⟩
    have HPL : Hid (w.heap.size ≤ p) := hide (by rw [← unhide Hp]; exact (unhide HF1).size)
    rw [unhide Hp] at HW2 HN2 ⊢
    refine (account_w tok charged paid (unhide HW2) hn0 hn1 0 Most.nil (by omega)).mono ?_
    rintro e w3 ⟨rfl, hP⟩
    rw [stepW_some] at hP
    have hF3 : Fr (fun k => k = p ∨ k = p) w2 w3 := by obtain ⟨g', _, _, _, h4⟩ := hP; exact h4
    have n0 : w3.cell? ⟨p + 1, 0, none⟩ = some (.pointer (some ⟨p, 0, none⟩)) := ((unhide HN2).frame hF3 (by omega)).cell 0
    have HF3 := hide (WP.fresh (unhide HF2) (unhide HPL) (unhide HPL) hP)
    obtain ⟨g', h1, _, _, _⟩ := hP
    have HW3 := hide h1
    clear h1 hF3
    go_wp2_with fail
    refine (wbytes (unhide HW3) _ (Most.wr _ _) (by simp only [wide, List.foldr, Kd.n]; omega)).mono ?_
    have hXe : X = wrL accountK [.string tok, .int .i64 charged, .int .i64 paid] := unhide HBT
    rw [← hXe]
    rintro e w4 hWr
    obtain ⟨ao, cap, gb, rfl, h2⟩ := Wrote.later (unhide HF3) hWr
    have H4 := hide h2
    clear hWr h2 n0 hXe
    go_wp2
    go_ret2
    exact ⟨ao, cap, gb, rfl, unhide H4⟩

theorem recAccount_any (t : Ac) (w : World) : Calls Try.prog 32 #[.agg (acC t)] w (Wrote w (accountW t).1 (accountW t).2) := by
  have R := hide (writtenAccount_any t)
  generalize (accountW t).1 = bs at *
  generalize (accountW t).2 = c at *
  unfold acC at *
  obtain ⟨tok, charged, paid⟩ := t
  simp only at R ⊢
  go_enter Try.func32, Try.ntmps32
  go_wp2_with fail
  refine (unhide R _).mono ?_
  rintro e w1 ⟨ao, cap, gb, rfl, h2⟩
  have H2 : Hid (Wrote w bs c (.returned (.tuple #[.slice ao bs.length cap, .int .i64 c])) w1) := hide (Wrote.later ((Fr.refl (fun _ => False) w).alloc (.cells #[.string tok, .int .i64 charged, .int .i64 paid] 26)) ⟨ao, cap, gb, rfl, h2⟩)
  clear h2
  go_wp2
  go_ret2
  exact unhide H2

end Go.Proofs.Ytlhgfnpialndaaa

