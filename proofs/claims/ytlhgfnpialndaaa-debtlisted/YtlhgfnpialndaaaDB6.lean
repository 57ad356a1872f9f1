import Derived.Test.YtlhgfnpialndaaaDB5
import Derived.Laws.StructEq
/- Rows of accounts: Accounts, Same, SameTokens. -/
namespace Go.Proofs.Ytlhgfnpialndaaa
open Go.RowKit Go.Maps

theorem eqAccK (w : World) (a b : Int) (c : ByteArray) : (Op.equalIn 10000 26 (.agg #[.string c, .int .i64 a, .int .i64 b]) (.agg #[.string c, .int .i64 a, .int .i64 b])).run Try.prog w = .ok true w := by
  have u3 := Try.underlying3
  have u4 := Try.underlying9
  have hS : Try.prog.underlying 26 = some (.struct (Try.prog.fieldsOf 26)) := by kernel_rfl
  have hp : Try.prog.stoodInHeld 26 = false := by kernel_rfl
  rw [show (10000 : Nat) = 9999 + 1 from rfl, run_equalIn_agg w 9999 26 _ _ hS hp]
  simp only [Program.fieldsOf, Try.underlying26]
  go_simp

def acL (a : Ac) : List Value := [.string a.tok, .int .i64 a.charged, .int .i64 a.paid]
def acV (l : List Ac) : List Value := l.flatMap acL
theorem acV_length (l : List Ac) : (acV l).length = l.length * 3 := by
  unfold acV
  induction l with
  | nil => rfl
  | cons a r ih => rw [List.flatMap_cons, List.length_append, ih, List.length_cons]; simp [acL]; omega
theorem acV_snoc (l : List Ac) (a : Ac) : acV (l ++ [a]) = acV l ++ acL a := by simp [acV]
theorem acV_one (l : List Ac) : ∀ u ∈ acV l, u.oneCell' = true := fun u hu => by
  obtain ⟨x, _, hx⟩ := List.mem_flatMap.1 hu
  simp only [acL, List.mem_cons, List.not_mem_nil, or_false] at hx
  rcases hx with rfl | rfl | rfl <;> rfl
theorem acV_get (l : List Ac) {i : Nat} (hi : i < l.length) : (acV l)[i * 3]? = some (.string l[i].tok) ∧ (acV l)[i * 3 + 1]? = some (.int .i64 l[i].charged) ∧ (acV l)[i * 3 + 2]? = some (.int .i64 l[i].paid) := by
  have g := fun c hc' => flat_get acL 3 (fun _ => rfl) l i hi c hc'
  exact ⟨g 0 (by omega), g 1 (by omega), g 2 (by omega)⟩
theorem CAt.ac {w : World} {ao : Option Addr} {l : List Ac} (h : CAt w ao (acV l)) {i : Nat} (hi : i < l.length) : ∃ b off, ao = some ⟨b, off, none⟩ ∧
    w.cell? ⟨b, off + i * 3, none⟩ = some (.string l[i].tok) ∧ w.cell? ⟨b, off + i * 3 + 1, none⟩ = some (.int .i64 l[i].charged) ∧ w.cell? ⟨b, off + i * 3 + 2, none⟩ = some (.int .i64 l[i].paid) := by
  have hl := acV_length l
  obtain ⟨b, off, e, hc⟩ := h (by omega)
  obtain ⟨g0, g1, g2⟩ := acV_get l hi
  have q : ∀ c (hc' : c < 3) v, (acV l)[i * 3 + c]? = some v → w.cell? ⟨b, off + (i * 3 + c), none⟩ = some v := fun c hc' v hv => by
    rw [hc (i * 3 + c) (by omega)]
    rw [List.getElem?_eq_getElem (by omega)] at hv
    exact hv
  exact ⟨b, off, e, q 0 (by omega) _ g0, q 1 (by omega) _ g1, q 2 (by omega) _ g2⟩
theorem KRow.catK {w : World} {ao : Option Addr} {cap g k : Nat} {vs : List Value} (h : KRow w ao cap g k vs) : CAt w ao vs := fun h0 => by
  have h1 := h.le
  have hc : 0 < cap := by
    rcases Nat.eq_zero_or_pos cap with rfl | h2
    · omega
    · exact h2
  exact ⟨g, 0, h.ad hc, fun j hj => by rw [Nat.zero_add]; exact h.cells j hj⟩

/-- A row of accounts under way, of one's own. -/
structure ARow (w0 w : World) (ao : Option Addr) (cap g : Nat) (L : List Ac) : Prop where
  row : KRow w ao cap g 3 (acV L)
  new : 0 < cap → w0.heap.size ≤ g
  fr : Fr (fun _ => False) w0 w
theorem ARow.app {w0 w w2 w3 : World} {ao ao' : Option Addr} {cap g cap' g' : Nat} {L : List Ac} (h : ARow w0 w ao cap g L) (hf : Fr (fun _ => False) w w2) (x : Ac) (hr : KRow w3 ao' cap' g' 3 (acV L ++ acL x)) (hg : Grew w2 g cap w3 g' cap') : ARow w0 w3 ao' cap' g' (L ++ [x]) := by
  refine ⟨by rw [acV_snoc]; exact hr, fun hc => ?_, ?_⟩
  · rcases hg with ⟨e, e2, _⟩ | ⟨e, _, _⟩
    · rw [e]; exact h.new (by omega)
    · have := h.fr.size; have := hf.size; omega
  · rcases hg with ⟨_, _, f⟩ | ⟨_, _, f⟩
    · exact (h.fr.trans hf (fun _ _ t => t)).trans f (fun i hi t => by have := h.new t.2; omega)
    · exact (h.fr.trans hf (fun _ _ t => t)).trans f (fun _ _ t => t)
theorem acInfo : (Try.prog.info? 26).map (fun i => (i.zero.map (·.cells), i.size, i.bytes)) = some (some #[.string ⟨#[]⟩, .int .i64 0, .int .i64 0], 3, 32) := by kernel_rfl
theorem acInfo2 : ∃ i z, Try.prog.info? 26 = some i ∧ i.zero = some z ∧ z.cells.size = 3 ∧ i.size = 3 ∧ i.bytes = 32 := by
  have h := acInfo
  cases hi : Try.prog.info? 26 with
  | none => rw [hi] at h; simp at h
  | some i =>
    rw [hi] at h
    simp only [Option.map_some, Option.some.injEq, Prod.mk.injEq] at h
    obtain ⟨h1, h2, h3⟩ := h
    cases hz : i.zero with
    | none => rw [hz] at h1; simp at h1
    | some z =>
      rw [hz] at h1
      simp only [Option.map_some, Option.some.injEq] at h1
      exact ⟨i, z, rfl, hz, by rw [h1]; rfl, h2, h3⟩

set_option maxRecDepth 20000 in
theorem sameT_is (w : World) (l : List ByteArray) (a1 : Option Addr) (c1 : Nat) (a2 : Option Addr) (c2 : Nat) (h1 : SAt w a1 l) (h2 : SAt w a2 l) (hl : l.length ≤ 140737488355328) :
    Calls Try.prog 26 #[.slice a1 l.length c1, .slice a2 l.length c2] w fun e w' => e = .returned (.bool true) ∧ Fr (fun _ => False) w w' := by
  have H1 := hide h1
  have H2 := hide h2
  clear h1 h2
  go_enter Try.func26, Try.ntmps26
  go_wp2
  go_loopw [5] (fun iv wr => ∃ (i : Nat), i ≤ l.length ∧ iv = .int .i64 i ∧ Hid (Fr (fun _ => False) w wr)) (fun iv _ => l.length - (intOf iv).toNat)
  case atStart => exact ⟨0, Nat.zero_le _, rfl, Fr.refl _ _⟩
  case round =>
    obtain ⟨i, hi, rfl, HI⟩ := hrel
    by_cases hil : i < l.length
    · obtain ⟨b1, o1, rfl, e1⟩ := ((unhide H1).keep (unhide HI)) (by omega)
      obtain ⟨b2, o2, rfl, e2⟩ := ((unhide H2).keep (unhide HI)) (by omega)
      replace e1 := e1 i hil
      replace e2 := e2 i hil
      rw [getD_eq hil] at e1 e2
      generalize l[i] = x at *
      go_wp2
      go_quiet (fail)
      go_wp2
      exact ⟨⟨i + 1, by omega, by go_num, (unhide HI).drewN _⟩, by simp [intOf]; omega⟩
    · obtain rfl : i = l.length := by omega
      go_wp2
      go_ret
      exact ⟨rfl, unhide HI⟩

set_option maxRecDepth 20000 in
theorem sameA_is (w : World) (l : List Ac) (a1 : Option Addr) (c1 : Nat) (a2 : Option Addr) (c2 : Nat) (h1 : CAt w a1 (acV l)) (h2 : CAt w a2 (acV l)) (hl : l.length ≤ 140737488355328) :
    Calls Try.prog 18 #[.slice a1 l.length c1, .slice a2 l.length c2] w fun e w' => e = .returned (.bool true) ∧ Fr (fun _ => False) w w' := by
  have H1 := hide h1
  have H2 := hide h2
  have q1 : Try.prog.eqGuardType Try.prog.depth 26 = false := by kernel_rfl
  have q2 := eqAccK
  clear h1 h2
  go_enter Try.func18, Try.ntmps18
  go_wp2
  go_loopw [5] (fun iv wr => ∃ (i : Nat), i ≤ l.length ∧ iv = .int .i64 i ∧ Hid (Fr (fun _ => False) w wr)) (fun iv _ => l.length - (intOf iv).toNat)
  case atStart => exact ⟨0, Nat.zero_le _, rfl, Fr.refl _ _⟩
  case round =>
    obtain ⟨i, hi, rfl, HI⟩ := hrel
    by_cases hil : i < l.length
    · obtain ⟨b1, o1, rfl, e1, e2, e3⟩ := ((unhide H1).keep (unhide HI)).ac hil
      obtain ⟨b2, o2, rfl, f1, f2, f3⟩ := ((unhide H2).keep (unhide HI)).ac hil
      generalize l[i].tok = x at *
      generalize l[i].charged = y at *
      generalize l[i].paid = z at *
      go_wp2
      go_quiet (fail)
      go_wp2
      exact ⟨⟨i + 1, by omega, by go_num, (unhide HI).drewN _⟩, by simp [intOf]; omega⟩
    · obtain rfl : i = l.length := by omega
      go_wp2
      go_ret
      exact ⟨rfl, unhide HI⟩
end Go.Proofs.Ytlhgfnpialndaaa

