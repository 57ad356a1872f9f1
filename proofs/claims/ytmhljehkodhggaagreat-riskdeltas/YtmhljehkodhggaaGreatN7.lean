import Derived.Test.YtmhljehkodhggaaGreatE2
/- Records as bytes, and the way back: written, taken, the exported calls. -/
namespace Go.Proofs.YtmhljehkodhggaaGreat
open Go.RowKit

/-- A writer's word on its bytes. -/
def codeOf (s : Option (List UInt8)) : Int := if s.isSome then 0 else 1

/-- What a call that writes a record comes to. -/
def Wrote (w : World) (bs : List UInt8) (c : Int) (e : Ending) (w' : World) : Prop :=
  ∃ ao cap gb, e = .returned (.tuple #[.slice ao bs.length cap, .int .i64 c]) ∧ Row w' (.slice ao bs.length cap) gb bs ∧ (0 < cap → w.heap.size ≤ gb) ∧ Fr (fun _ => False) w w'

theorem Wrote.later {w w1 w' : World} {bs : List UInt8} {c : Int} {e : Ending} (hf : Fr (fun _ => False) w w1) (h : Wrote w1 bs c e w') : Wrote w bs c e w' := by
  obtain ⟨ao, cap, gb, h1, h2, h3, h4⟩ := h
  exact ⟨ao, cap, gb, h1, h2, fun hc => Nat.le_trans hf.size (h3 hc), hf.trans h4 (fun _ _ t => t)⟩

theorem wbytes {w : World} {p g : Nat} {s : Option (List UInt8)} (h : WSt w p g s) (L : Nat) (hL : Most s L) (hf : L ≤ 140737488355328) : Calls Tryz.prog 73 #[.pointer (some ⟨p, 0, none⟩)] w (Wrote w (s.getD []) (codeOf s)) := by
  cases s with
  | some bs =>
    refine (bytes_ok h (Nat.le_trans (hL bs rfl) hf)).mono ?_
    rintro e w' ⟨v, g', rfl, hr, hF, hg⟩
    obtain ⟨ao, cap, rfl, _⟩ := hr.shape
    exact ⟨ao, cap, g', rfl, hr, fun _ => hg, hF⟩
  | none =>
    refine (bytes_bad h).mono ?_
    rintro e w' ⟨rfl, rfl⟩
    exact ⟨none, 0, 0, rfl, Row.nil _ _, fun h => absurd h (by omega), Fr.refl _ _⟩

theorem WP.fresh {p g : Nat} {st : Option (List UInt8)} {w w1 w2 : World} (hf : Fr (fun _ => False) w w1) (hp : w.heap.size ≤ p) (hg : w.heap.size ≤ g) (h : WP p g st w1 w2) : Fr (fun _ => False) w w2 := by
  obtain ⟨g', _, _, _, h4⟩ := h
  exact hf.trans h4 (fun i hi t => by omega)

/-- Bytes that are handed in. -/
structure BIn (w : World) (ao : Option Addr) (cap : Nat) (bs : List UInt8) : Prop where
  nil : ao = none → bs.length = 0 ∧ cap = 0
  cell : 0 < bs.length → ∃ b off, ao = some ⟨b, off, none⟩ ∧ ∀ j (hj : j < bs.length), w.cell? ⟨b, off + j, none⟩ = some (.int .u8 (bs[j].toNat))
  fit : bs.length ≤ 140737488355328

theorem BIn.keep {w w' : World} {ao : Option Addr} {cap : Nat} {bs : List UInt8} (h : BIn w ao cap bs) (hf : Fr (fun _ => False) w w') : BIn w' ao cap bs :=
  ⟨h.nil, fun h0 => by
    obtain ⟨b, off, e, hc⟩ := h.cell h0
    exact ⟨b, off, e, fun j hj => (hf.cell (a := ⟨b, off + j, none⟩) (World.block_lt_of_cell? _ _ (hc j hj)) (fun t => t)).trans (hc j hj)⟩, h.fit⟩

theorem Row.bin {w : World} {ao : Option Addr} {cap g : Nat} {bs : List UInt8} (h : Row w (.slice ao bs.length cap) g bs) (hf : bs.length ≤ 140737488355328) : BIn w ao cap bs := by
  obtain ⟨ao', cap', e, h1, h2, h3, h4⟩ := h.shape
  injection e with e1 e2 e3
  subst e1 e3
  refine ⟨fun e => ?_, fun h0 => ⟨g, 0, h3 (by omega), fun j hj => by rw [Nat.zero_add]; exact h.cells j hj⟩, hf⟩
  have : ¬ 0 < cap := fun hc => by rw [h3 hc] at e; cases e
  omega

/-- End, where nothing is left out of sight: the fault, in a new box. -/
def EndD (w : World) (p : Nat) (bs : List UInt8) (s : RS) (e : Ending) (w' : World) : Prop :=
  e = .returned (.agg #[.int .i64 (endR s bs.length).c, .int .i64 (endR s bs.length).f]) ∧ Fr (· = p) w w'

def tapB (t : Tp) : Option (List UInt8) := wrL tapK (tpC t).toList
/-- What writing answers. -/
def tapW (t : Tp) : List UInt8 × Int := if tapOk t then ((tapB t).getD [], codeOf (tapB t)) else ([], 80)

theorem tapW_le (t : Tp) : (tapW t).1.length ≤ 1000 := by
  unfold tapW
  split
  · cases h : tapB t with
    | none => simp
    | some bs =>
      have := Most.wr tapK (tpC t).toList bs h
      simp only [wide, List.foldr, Kd.n] at this
      simp only [Option.getD_some]
      omega
  · simp

def entryB (t : En) : Option (List UInt8) := wrL entryK (enC t).toList
/-- What writing answers. -/
def entryW (t : En) : List UInt8 × Int := if entryOk t then ((entryB t).getD [], codeOf (entryB t)) else ([], 80)

theorem entryW_le (t : En) : (entryW t).1.length ≤ 1000 := by
  unfold entryW
  split
  · cases h : entryB t with
    | none => simp
    | some bs =>
      have := Most.wr entryK (enC t).toList bs h
      simp only [wide, List.foldr, Kd.n] at this
      simp only [Option.getD_some]
      omega
  · simp

def accountB (t : Ac) : Option (List UInt8) := wrL accountK (acC t).toList
/-- What writing answers. -/
def accountW (t : Ac) : List UInt8 × Int := if accountOk t then ((accountB t).getD [], codeOf (accountB t)) else ([], 80)

theorem accountW_le (t : Ac) : (accountW t).1.length ≤ 1000 := by
  unfold accountW
  split
  · cases h : accountB t with
    | none => simp
    | some bs =>
      have := Most.wr accountK (acC t).toList bs h
      simp only [wide, List.foldr, Kd.n] at this
      simp only [Option.getD_some]
      omega
  · simp

end Go.Proofs.YtmhljehkodhggaaGreat

