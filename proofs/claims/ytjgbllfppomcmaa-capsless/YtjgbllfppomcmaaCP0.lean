import Derived.Test.YtjgbllfppomcmaaPJ0
import Derived.Test.YtjgbllfppomcmaaQZ1
import Derived.Test.YtjgbllfppomcmaaQM3
import Derived.Test.YtjgbllfppomcmaaJK0
import Derived.Test.YtjgbllfppomcmaaBX
/- What a day and a week come to: days as values; what the document says of them. -/
namespace Go.Proofs.Ytjgbllfppomcmaa
open Go.RowKit

/-- A day. -/
structure Dy where
  day : Int
  rail : Int
  bus : Int
  cap : Int
  most : Int
  low : Int
  high : Int

def dyL (d : Dy) : List Value := [.int .i64 d.day, .int .i64 d.rail, .int .i64 d.bus, .int .i64 d.cap, .int .i64 d.most, .int .i64 d.low, .int .i64 d.high]
def dyC (d : Dy) : Array Value := #[.int .i64 d.day, .int .i64 d.rail, .int .i64 d.bus, .int .i64 d.cap, .int .i64 d.most, .int .i64 d.low, .int .i64 d.high]
def dyV (l : List Dy) : List Value := l.flatMap dyL
def dz : Dy := ⟨0, 0, 0, 0, 0, 0, 0⟩
theorem dyV_length (l : List Dy) : (dyV l).length = l.length * 7 := flat_length dyL 7 (fun _ => rfl) l
theorem dyL_one (d : Dy) : ∀ u ∈ dyL d, u.oneCell' = true := fun u hu => by simp only [dyL, List.mem_cons, List.not_mem_nil, or_false] at hu; rcases hu with rfl | rfl | rfl | rfl | rfl | rfl | rfl <;> rfl
theorem dyV_one (l : List Dy) : ∀ u ∈ dyV l, u.oneCell' = true := flat_one _ (fun x u hu => dyL_one x u hu) l
theorem dyV_snoc (l : List Dy) (d : Dy) : dyV (l ++ [d]) = dyV l ++ dyL d := by simp [dyV]
theorem dy_size (d : Dy) : (Try.prog.info? 43).map (·.size) = some (dyC d).size := by
  have h : (Try.prog.info? 43).map (·.size) = some 7 := by kernel_rfl
  exact h
theorem dy_one (d : Dy) : (dyC d).all (·.oneCell') = true := by simp [dyC, Value.oneCell']

theorem CAt.dy {w : World} {ao : Option Addr} {l : List Dy} (h : CAt w ao (dyV l)) {i : Nat} (hi : i < l.length) : ∃ b off, ao = some ⟨b, off, none⟩ ∧ ∀ c (_ : c < 7) v, (dyL l[i])[c]? = some v → w.cell? ⟨b, off + (i * 7 + c), none⟩ = some v := by
  have hl := dyV_length l
  obtain ⟨b, off, e, hc⟩ := h (by omega)
  refine ⟨b, off, e, fun c hc' v hv => ?_⟩
  have h1 := hc (i * 7 + c) (by omega)
  have h2 := flat_get dyL 7 (fun _ => rfl) l i hi c hc'
  rw [hv] at h2
  rw [h1]
  have h3 : (dyV l)[i * 7 + c]? = some v := h2
  rw [List.getElem?_eq_getElem (by omega)] at h3
  exact h3

/-- A day loaded out of its box. -/
theorem wpList_load_day {ops : Array Oper} {rest : List Oper} {o : Oper} {a : Act} {w : World} {Q : Exit → Act → World → Prop} (hgd : o.guard = none) (x : Operand) (ho : o.op = .load 43 x)
    {g : Nat} {d : Dy} (hx : a.eval x = .pointer (some ⟨g, 0, none⟩)) (hg : Bx w g (dyC d) 43) (h : wpList Try.prog ops Q rest (a.put o.dst (.agg (dyC d))) w) : wpList Try.prog ops Q (o :: rest) a w :=
  wpList_load_row hgd 43 x ho g hx 43 (dyC d) (0, 0) _ hg Try.underlying43 rfl (dy_size d) h

/-- A priced journey as a value. -/
def pC (p : Jn × Int) : Array Value := #[.int .i64 p.1.kind, .int .i64 p.1.fr, .int .i64 p.1.to, .int .i64 p.1.st, .int .i64 p.1.en, .bool p.1.free, .int .i64 p.2]
theorem pb_size (p : Jn × Int) : (Try.prog.info? 33).map (·.size) = some (pC p).size := by
  have h : (Try.prog.info? 33).map (·.size) = some 7 := by kernel_rfl
  exact h
theorem wpList_load_priced {ops : Array Oper} {rest : List Oper} {o : Oper} {a : Act} {w : World} {Q : Exit → Act → World → Prop} (hgd : o.guard = none) (x : Operand) (ho : o.op = .load 33 x)
    {g : Nat} {p : Jn × Int} (hx : a.eval x = .pointer (some ⟨g, 0, none⟩)) (hg : Bx w g (pC p) 33) (h : wpList Try.prog ops Q rest (a.put o.dst (.agg (pC p))) w) : wpList Try.prog ops Q (o :: rest) a w :=
  wpList_load_row hgd 33 x ho g hx 33 (pC p) (0, 0) _ hg Try.underlying33 rfl (pb_size p) h

/-- Is it a kind? Is the time on the day? -/
def jk (k : Int) : Bool := decide (1 ≤ k) && decide (k ≤ 4)
def onB (day st : Int) : Bool := decide (dayE st = 0) && decide (dayV st = day)
/-- A journey's first error. -/
def pjE (t : Tf) (day : Int) (p : Jn × Int) : Int :=
  if jk p.1.kind = true then (if price p.2 = true then (if onB day p.1.st = true then (if p.1.kind = 1 then (if (stationOf t p.1.fr).isSome = true ∧ (stationOf t p.1.to).isSome = true then 0 else 1) else 0) else 60) else 50) else 1
def zF (t : Tf) (p : Jn × Int) : Int := ((stationOf t p.1.fr).getD ⟨0, 0, 0⟩).zone
def zT (t : Tf) (p : Jn × Int) : Int := ((stationOf t p.1.to).getD ⟨0, 0, 0⟩).zone
def lowW (a lo : Int) : Int := if a = 0 then lo else if 0 < lo ∧ lo < a then lo else a
/-- Room for zones. -/
def widD (d : Dy) (lo hi : Int) : Dy := ⟨d.day, d.rail, d.bus, d.cap, d.most, lowW d.low lo, imax d.high hi⟩
/-- One more journey. -/
def putD (t : Tf) (d : Dy) (p : Jn × Int) : Dy :=
  if p.1.kind = 1 then widD ⟨d.day, d.rail + p.2, d.bus, d.cap, d.most, d.low, d.high⟩ (imin (zF t p) (zT t p)) (imax (zF t p) (zT t p))
  else if p.1.kind = 4 then ⟨d.day, d.rail, d.bus + p.2, d.cap, d.most, d.low, d.high⟩ else ⟨d.day, d.rail, d.bus, d.cap, d.most + p.2, d.low, d.high⟩
def firstP (t : Tf) (day : Int) : List (Jn × Int) → Int
  | [] => 0
  | p :: r => if pjE t day p = 0 then firstP t day r else pjE t day p
theorem firstP_cons (t : Tf) (day : Int) (p : Jn × Int) (r : List (Jn × Int)) : firstP t day (p :: r) = if pjE t day p = 0 then firstP t day r else pjE t day p := rfl
def dE (t : Tf) (day : Int) (l : List (Jn × Int)) : Int := if rightE t = 0 then (if 2000 < l.length then 2 else firstP t day l) else rightE t
def d0 (day : Int) : Dy := ⟨day, 0, 0, 0, 0, 0, 0⟩
def sumD (t : Tf) (day : Int) (l : List (Jn × Int)) : Dy := l.foldl (putD t) (d0 day)
def spz : Spn := ⟨0, 0, 0, 0, 0⟩
/-- Below a cap. -/
def capV (t : Tf) (d : Dy) (c : Spn → Int) : Int := if (spanOf t d.low d.high).isSome = true then imax d.bus (imin (d.rail + d.bus) (c ((spanOf t d.low d.high).getD ⟨0, 0, 0, 0, 0⟩))) else d.rail + d.bus
def heldD (t : Tf) (d : Dy) : Dy := ⟨d.day, d.rail, imin d.bus t.busDaily, d.cap, d.most, d.low, d.high⟩
def cappedD (t : Tf) (d : Dy) : Dy := ⟨d.day, d.rail, d.bus, capV t d (·.daily), d.most, d.low, d.high⟩
def dR (t : Tf) (day : Int) (l : List (Jn × Int)) : Dy := if dE t day l = 0 then cappedD t (heldD t (sumD t day l)) else dz

theorem sumD_step (t : Tf) (day : Int) (l : List (Jn × Int)) (i : Nat) (hi : i < l.length) : sumD t day (l.take (i + 1)) = putD t (sumD t day (l.take i)) l[i] := by
  unfold sumD
  rw [List.take_succ_eq_append_getElem hi, List.foldl_append]
  rfl
theorem putD_day (t : Tf) (d : Dy) (p : Jn × Int) : (putD t d p).day = d.day := by
  unfold putD widD
  split
  · rfl
  · split <;> rfl
theorem foldD_day (t : Tf) (l : List (Jn × Int)) : ∀ d, (l.foldl (putD t) d).day = d.day := by
  induction l with
  | nil => intro d; rfl
  | cons p r ih => intro d; rw [List.foldl_cons, ih, putD_day]
theorem sumD_day (t : Tf) (day : Int) (l : List (Jn × Int)) : (sumD t day l).day = day := foldD_day t l _

/-- Does a day stand behind the one ahead? -/
def follB (d a : Dy) : Bool := decide (a.day < d.day) && decide (weekV d.day = weekV a.day)
def totB (n : Int) : Bool := decide (0 ≤ n) && decide (n ≤ 1099511627776)
def totsB (d : Dy) : Bool := totB d.rail && (totB d.bus && (totB d.cap && totB d.most))
def zonB (t : Tf) (lo hi : Int) : Bool := if lo = 0 ∧ hi = 0 then true else ((spanOf t lo hi).isSome && decide (lo ≤ hi))
/-- What is wrong with a day by itself. -/
def dayRE (t : Tf) (d : Dy) : Int := if totsB d = true ∧ ¬ d.cap < d.bus then (if zonB t d.low d.high = true then 0 else 1) else 50
/-- The first error of days, behind one ahead. -/
def firstW (t : Tf) : Option Dy → List Dy → Int
  | _, [] => 0
  | none, d :: r => if dayRE t d = 0 then firstW t (some d) r else dayRE t d
  | some a, d :: r => if follB d a = true then (if dayRE t d = 0 then firstW t (some d) r else dayRE t d) else 60
def wkE (t : Tf) (l : List Dy) : Int := if rightE t = 0 then (if 7 < l.length then 2 else firstW t none l) else rightE t
/-- One more day. -/
def addW (s d : Dy) : Dy := widD ⟨s.day, s.rail + (d.cap - d.bus), s.bus + d.bus, s.cap, s.most + d.most, s.low, s.high⟩ d.low d.high
def sumW (l : List Dy) : Dy := l.foldl addW dz
def heldW (t : Tf) (d : Dy) : Dy := ⟨d.day, d.rail, imin d.bus t.busWeekly, d.cap, d.most, d.low, d.high⟩
def wkV (t : Tf) (l : List Dy) : Int := capV t (heldW t (sumW l)) (·.weekly) + (sumW l).most
def wkR (t : Tf) (l : List Dy) : Int := if wkE t l = 0 then wkV t l else 0

theorem sumW_step (l : List Dy) (i : Nat) (hi : i < l.length) : sumW (l.take (i + 1)) = addW (sumW (l.take i)) l[i] := by
  unfold sumW
  rw [List.take_succ_eq_append_getElem hi, List.foldl_append]
  rfl

end Go.Proofs.Ytjgbllfppomcmaa

