import Derived.Test.YtjgbllfppomcmaaGreatCP0
import Derived.Deep.RegionHeldLaw
import Derived.Deep.RegionHeld3
import Derived.Deep.Cut
import Derived.Deep.CutBlock
/- Outages as values: which may be, which of them hold a journey up, what is given back. -/
namespace Go.Proofs.YtjgbllfppomcmaaGreat
open Go.RowKit

theorem jn_size (j : Jn) : (Tryz.prog.info? 124).map (·.size) = some (jC j).size := by
  have h : (Tryz.prog.info? 124).map (·.size) = some 6 := by kernel_rfl
  exact h

/-- A journey loaded out of its box. -/
theorem wpList_load_jn {ops : Array Oper} {rest : List Oper} {o : Oper} {a : Act} {w : World} {Q : Exit → Act → World → Prop} (hgd : o.guard = none) (x : Operand) (ho : o.op = .load 124 x)
    {g : Nat} {j : Jn} (hx : a.eval x = .pointer (some ⟨g, 0, none⟩)) (hg : Bx w g (jC j) 124) (h : wpList Tryz.prog ops Q rest (a.put o.dst (.agg (jC j))) w) : wpList Tryz.prog ops Q (o :: rest) a w :=
  wpList_load_row hgd 124 x ho g hx 124 (jC j) (0, 0) _ hg Tryz.underlying124 rfl (jn_size j) h

/-- An outage. -/
structure Ou where
  st : Int
  fr : Int
  tl : Int

def ouL (o : Ou) : List Value := [.int .i64 o.st, .int .i64 o.fr, .int .i64 o.tl]
def ouC (o : Ou) : Array Value := #[.int .i64 o.st, .int .i64 o.fr, .int .i64 o.tl]
def ouV (l : List Ou) : List Value := l.flatMap ouL
def ouA (o : Ou) : Value := .agg #[.int .i64 o.st, .int .i64 o.fr, .int .i64 o.tl]
def ouz : Ou := ⟨0, 0, 0⟩
theorem ouV_length (l : List Ou) : (ouV l).length = l.length * 3 := flat_length ouL 3 (fun _ => rfl) l
theorem ouL_one (o : Ou) : ∀ u ∈ ouL o, u.oneCell' = true := fun u hu => by simp only [ouL, List.mem_cons, List.not_mem_nil, or_false] at hu; rcases hu with rfl | rfl | rfl <;> rfl
theorem ouV_one (l : List Ou) : ∀ u ∈ ouV l, u.oneCell' = true := flat_one _ (fun x u hu => ouL_one x u hu) l
theorem ouV_snoc (l : List Ou) (o : Ou) : ouV (l ++ [o]) = ouV l ++ ouL o := by simp [ouV]
theorem ouV_append (l m : List Ou) : ouV (l ++ m) = ouV l ++ ouV m := by simp [ouV]
theorem ouInfo : (Tryz.prog.info? 57).map (fun i => (i.zero.map (·.cells), i.size, i.bytes)) = some (some (ouL ouz).toArray, 3, 24) := by kernel_rfl

theorem CAt.ou {w : World} {ao : Option Addr} {l : List Ou} (h : CAt w ao (ouV l)) {i : Nat} (hi : i < l.length) : ∃ b off, ao = some ⟨b, off, none⟩ ∧
    w.cell? ⟨b, off + i * 3, none⟩ = some (.int .i64 l[i].st) ∧ w.cell? ⟨b, off + i * 3 + 1, none⟩ = some (.int .i64 l[i].fr) ∧ w.cell? ⟨b, off + i * 3 + 2, none⟩ = some (.int .i64 l[i].tl) := by
  have hl := ouV_length l
  obtain ⟨b, off, e, hc⟩ := h (by omega)
  have g := fun c hc' => flat_get ouL 3 (fun _ => rfl) l i hi c hc'
  have q : ∀ c (hc' : c < 3) v, (ouL l[i])[c]? = some v → w.cell? ⟨b, off + (i * 3 + c), none⟩ = some v := fun c hc' v hv => by
    have h1 := hc (i * 3 + c) (by omega)
    have h2 := g c hc'
    rw [hv] at h2
    rw [h1]
    have h3 : (ouV l)[i * 3 + c]? = some v := h2
    rw [List.getElem?_eq_getElem (by omega)] at h3
    exact h3
  exact ⟨b, off, e, q 0 (by omega) _ rfl, q 1 (by omega) _ rfl, q 2 (by omega) _ rfl⟩

/-- May an outage be? -/
def ouOk (o : Ou) : Bool := decide (1 ≤ o.st) && decide (o.st ≤ 65535) && timeB o.fr && timeB o.tl && decide (o.fr < o.tl)
def ousOk (l : List Ou) : Bool := decide (l.length ≤ 100) && l.all ouOk
def ousE (l : List Ou) : Int := if ousOk l = true then 0 else 80

/-- Did a journey take as long as one that was held up? -/
def lateB (dl : Int) (j : Jn) : Bool := timeB j.st && timeB j.en && decide (dl ≤ j.en - j.st)
/-- Does an outage hold a journey up? -/
def holdB (dl : Int) (j : Jn) (o : Ou) : Bool :=
  if j.kind = 2 ∨ j.kind = 3 then decide (o.st = j.fr) && decide (o.fr ≤ j.st) && decide (j.st < o.tl)
  else if j.kind = 1 ∧ lateB dl j = true then (decide (o.st = j.fr) || decide (o.st = j.to)) && decide (o.fr ≤ j.en) && decide (j.st < o.tl)
  else false
theorem holdB_1 (dl : Int) (j : Jn) (o : Ou) (h : j.kind = 2 ∨ j.kind = 3) : holdB dl j o = (decide (o.st = j.fr) && decide (o.fr ≤ j.st) && decide (j.st < o.tl)) := by unfold holdB; rw [if_pos h]
theorem holdB_2 (dl : Int) (j : Jn) (o : Ou) (h : ¬ (j.kind = 2 ∨ j.kind = 3)) (h2 : j.kind = 1 ∧ lateB dl j = true) : holdB dl j o = ((decide (o.st = j.fr) || decide (o.st = j.to)) && decide (o.fr ≤ j.en) && decide (j.st < o.tl)) := by unfold holdB; rw [if_neg h, if_pos h2]
theorem holdB_3 (dl : Int) (j : Jn) (o : Ou) (h : ¬ (j.kind = 2 ∨ j.kind = 3)) (h2 : ¬ (j.kind = 1 ∧ lateB dl j = true)) : holdB dl j o = false := by unfold holdB; rw [if_neg h, if_neg h2]
def heldB (dl : Int) (l : List Ou) (j : Jn) : Bool := l.any (holdB dl j)
/-- A journey with what it costs then. -/
def back1 (dl : Int) (l : List Ou) (p : Jn × Int) : Jn × Int := if heldB dl l p.1 = true then (p.1, 0) else p
def backL (dl : Int) (l : List Ou) (p : List (Jn × Int)) : List (Jn × Int) := p.map (back1 dl l)
theorem backL_length (dl : Int) (l : List Ou) (p : List (Jn × Int)) : (backL dl l p).length = p.length := List.length_map ..
/-- Apply's error. -/
def backE (t : Tf) (l : List Ou) (n : Nat) : Int := if rightE t = 0 then (if ousE l = 0 then (if 2000 < n then 2 else 0) else ousE l) else rightE t

theorem noOutage_any (w : World) (o : Ou) : Calls Tryz.prog 57 #[ouA o] w fun e w' => e = .returned (.bool !(ouOk o)) ∧ Fr (fun _ => False) w w' := by
  have HE : Hid (ouOk o = (decide (1 ≤ o.st) && decide (o.st ≤ 65535) && timeB o.fr && timeB o.tl && decide (o.fr < o.tl))) := hide rfl
  have R1 := hide (fun (u : World) => ctimeB_any u o.fr)
  have R2 := hide (fun (u : World) => ctimeB_any u o.tl)
  generalize ouOk o = E at *
  unfold ouA
  obtain ⟨st, fr, tl⟩ := o
  simp only at *
  generalize timeB fr = b1 at *
  generalize timeB tl = b2 at *
  have HF : Hid (Fr (fun _ => False) w (w.alloc (.cells #[.int .i64 st, .int .i64 fr, .int .i64 tl] 57))) := hide ((Fr.refl _ _).alloc _)
  go_enter Tryz.func57, Tryz.ntmps57
  rcases (by omega : (¬ 1 ≤ st) ∨ (1 ≤ st ∧ ¬ st ≤ 65535) ∨ (1 ≤ st ∧ st ≤ 65535)) with h1 | ⟨h1, h2⟩ | ⟨h1, h2⟩
  all_goals
    go_wp2_with fail
    refine (unhide R1 _).mono ?_
    rintro e w1 ⟨rfl, hq⟩
    obtain rfl := hq.symm
    cases b1
    · go_wp2
      go_ret
      exact ⟨by rw [unhide HE]; simp [*], unhide HF⟩
    · go_wp2_with fail
      refine (unhide R2 _).mono ?_
      rintro e w1 ⟨rfl, hq⟩
      obtain rfl := hq.symm
      cases b2
      · go_wp2
        go_ret
        exact ⟨by rw [unhide HE]; simp [*], unhide HF⟩
      · by_cases h3 : fr < tl
        all_goals
          go_wp2
          go_ret
          exact ⟨by rw [unhide HE]; simp [*], unhide HF⟩

theorem isLate_any (w : World) (dl : Int) (j : Jn) : Calls Tryz.prog 169 #[.int .i64 dl, .agg (jC j)] w fun e w' => e = .returned (.bool (lateB dl j)) ∧ Fr (fun _ => False) w w' := by
  have HE : Hid (lateB dl j = (timeB j.st && timeB j.en && decide (dl ≤ j.en - j.st))) := hide rfl
  have R1 := hide (fun (u : World) => ctimeB_any u j.st)
  have R2 := hide (fun (u : World) => ctimeB_any u j.en)
  have T1 := hide (timeB_iff j.st)
  have T2 := hide (timeB_iff j.en)
  generalize lateB dl j = E at *
  obtain ⟨k, f, o, s, n, r⟩ := j
  simp only [jC] at *
  generalize timeB s = b1 at *
  generalize timeB n = b2 at *
  have HF : Hid (Fr (fun _ => False) w (w.alloc (.cells #[.int .i64 k, .int .i64 f, .int .i64 o, .int .i64 s, .int .i64 n, .bool r] 124))) := hide ((Fr.refl _ _).alloc _)
  go_enter Tryz.func169, Tryz.ntmps169
  go_wp2_with fail
  refine (unhide R1 _).mono ?_
  rintro e w1 ⟨rfl, hq⟩
  obtain rfl := hq.symm
  cases b1
  · go_wp2
    go_ret
    exact ⟨by rw [unhide HE]; simp [*], unhide HF⟩
  · go_wp2_with fail
    refine (unhide R2 _).mono ?_
    rintro e w1 ⟨rfl, hq⟩
    obtain rfl := hq.symm
    cases b2
    · go_wp2
      go_ret
      exact ⟨by rw [unhide HE]; simp [*], unhide HF⟩
    · have h1 := (unhide T1).1 (by first | trivial | rfl)
      have h2 := (unhide T2).1 (by first | trivial | rfl)
      by_cases h3 : dl ≤ n - s
      all_goals
        go_wp2
        go_ret
        exact ⟨by rw [unhide HE]; simp [*], unhide HF⟩

end Go.Proofs.YtjgbllfppomcmaaGreat

