import Derived.Test.YtlhgfnpialndaaaI1
import Derived.Test.YtlhgfnpialndaaaRX
import Derived.Test.YtlhgfnpialndaaaProg
/- Stations, spans, bands and tariffs in memory. No function of the program is named here. -/
namespace Go.Proofs.Ytlhgfnpialndaaa
open Go.RowKit

structure Stn where
  id : Int
  zone : Int
  group : Int

structure Spn where
  fr : Int
  to : Int
  single : Int
  daily : Int
  weekly : Int

/-- As cells. -/
def stC (s : Stn) : List Value := [.int .i64 s.id, .int .i64 s.zone, .int .i64 s.group]
def spC (s : Spn) : List Value := [.int .i64 s.fr, .int .i64 s.to, .int .i64 s.single, .int .i64 s.daily, .int .i64 s.weekly]
def bdC (s : Int × Int) : List Value := [.int .i64 s.1, .int .i64 s.2]
def stV (l : List Stn) : List Value := l.flatMap stC
def spV (l : List Spn) : List Value := l.flatMap spC
def bdV (l : List (Int × Int)) : List Value := l.flatMap bdC

theorem flat_length {α : Type} (f : α → List Value) (k : Nat) (hf : ∀ x, (f x).length = k) (l : List α) : (l.flatMap f).length = l.length * k := by
  induction l with
  | nil => simp
  | cons b r ih => rw [List.flatMap_cons, List.length_append, ih, hf, List.length_cons, Nat.add_mul]; omega

theorem flat_get {α : Type} (f : α → List Value) (k : Nat) (hf : ∀ x, (f x).length = k) : ∀ (l : List α) (j : Nat) (hj : j < l.length) (c : Nat), c < k → (l.flatMap f)[j * k + c]? = (f l[j])[c]?
  | [], j, hj, _, _ => absurd hj (by simp)
  | b :: r, 0, _, c, hc => by
    rw [List.flatMap_cons, Nat.zero_mul, Nat.zero_add, List.getElem?_append_left (by rw [hf]; exact hc)]
    rfl
  | b :: r, j + 1, hj, c, hc => by
    have ih := flat_get f k hf r j (by simpa using hj) c hc
    rw [List.flatMap_cons, List.getElem?_append_right (by rw [hf, Nat.add_mul]; omega), hf, show (j + 1) * k + c - k = j * k + c by rw [Nat.add_mul]; omega, ih]
    rfl

theorem stV_length (l : List Stn) : (stV l).length = l.length * 3 := flat_length stC 3 (fun _ => rfl) l
theorem spV_length (l : List Spn) : (spV l).length = l.length * 5 := flat_length spC 5 (fun _ => rfl) l
theorem bdV_length (l : List (Int × Int)) : (bdV l).length = l.length * 2 := flat_length bdC 2 (fun _ => rfl) l

theorem flat_one {α : Type} (f : α → List Value) (hf : ∀ x, ∀ u ∈ f x, u.oneCell' = true) (l : List α) : ∀ u ∈ l.flatMap f, u.oneCell' = true := by
  intro u hu
  obtain ⟨b, _, hb⟩ := List.mem_flatMap.1 hu
  exact hf b u hb

theorem stV_one (l : List Stn) : ∀ u ∈ stV l, u.oneCell' = true := flat_one _ (fun x u hu => by simp only [stC, List.mem_cons, List.not_mem_nil, or_false] at hu; rcases hu with rfl | rfl | rfl <;> rfl) l
theorem spV_one (l : List Spn) : ∀ u ∈ spV l, u.oneCell' = true := flat_one _ (fun x u hu => by simp only [spC, List.mem_cons, List.not_mem_nil, or_false] at hu; rcases hu with rfl | rfl | rfl | rfl | rfl <;> rfl) l
theorem bdV_one (l : List (Int × Int)) : ∀ u ∈ bdV l, u.oneCell' = true := flat_one _ (fun x u hu => by simp only [bdC, List.mem_cons, List.not_mem_nil, or_false] at hu; rcases hu with rfl | rfl <;> rfl) l

/-- A slice whose cells are vs. -/
def CAt (w : World) (ao : Option Addr) (vs : List Value) : Prop :=
  0 < vs.length → ∃ b off, ao = some ⟨b, off, none⟩ ∧ ∀ j (hj : j < vs.length), w.cell? ⟨b, off + j, none⟩ = some vs[j]

theorem CAt.frame {S : Nat → Prop} {w w' : World} {ao : Option Addr} {vs : List Value} (h : CAt w ao vs) (hf : Fr S w w') (hS : ∀ b off, ao = some ⟨b, off, none⟩ → 0 < vs.length → ¬ S b) : CAt w' ao vs := by
  intro hl
  obtain ⟨b, off, e, hc⟩ := h hl
  exact ⟨b, off, e, fun j hj => (hf.cell (a := ⟨b, off + j, none⟩) (World.block_lt_of_cell? _ _ (hc j hj)) (hS b off e hl)).trans (hc j hj)⟩

theorem CAt.keep {w w' : World} {ao : Option Addr} {vs : List Value} (h : CAt w ao vs) (hf : Fr (fun _ => False) w w') : CAt w' ao vs := h.frame hf (fun _ _ _ _ t => t)

theorem CAt.nil (w : World) (ao : Option Addr) : CAt w ao [] := fun h => absurd h (by simp)

theorem CAt.st {w : World} {ao : Option Addr} {l : List Stn} (h : CAt w ao (stV l)) {i : Nat} (hi : i < l.length) : ∃ b off, ao = some ⟨b, off, none⟩ ∧
    w.cell? ⟨b, off + i * 3, none⟩ = some (.int .i64 l[i].id) ∧ w.cell? ⟨b, off + i * 3 + 1, none⟩ = some (.int .i64 l[i].zone) ∧ w.cell? ⟨b, off + i * 3 + 2, none⟩ = some (.int .i64 l[i].group) := by
  have hl := stV_length l
  obtain ⟨b, off, e, hc⟩ := h (by omega)
  have g := fun c hc' => flat_get stC 3 (fun _ => rfl) l i hi c hc'
  have q : ∀ c (hc' : c < 3) v, (stC l[i])[c]? = some v → w.cell? ⟨b, off + (i * 3 + c), none⟩ = some v := fun c hc' v hv => by
    have h1 := hc (i * 3 + c) (by omega)
    have h2 := g c hc'
    rw [hv] at h2
    rw [h1]
    have h3 : (stV l)[i * 3 + c]? = some v := h2
    rw [List.getElem?_eq_getElem (by omega)] at h3
    exact h3
  exact ⟨b, off, e, q 0 (by omega) _ rfl, q 1 (by omega) _ rfl, q 2 (by omega) _ rfl⟩

theorem CAt.sp {w : World} {ao : Option Addr} {l : List Spn} (h : CAt w ao (spV l)) {i : Nat} (hi : i < l.length) : ∃ b off, ao = some ⟨b, off, none⟩ ∧
    w.cell? ⟨b, off + i * 5, none⟩ = some (.int .i64 l[i].fr) ∧ w.cell? ⟨b, off + i * 5 + 1, none⟩ = some (.int .i64 l[i].to) ∧ w.cell? ⟨b, off + i * 5 + 2, none⟩ = some (.int .i64 l[i].single) ∧
    w.cell? ⟨b, off + i * 5 + 3, none⟩ = some (.int .i64 l[i].daily) ∧ w.cell? ⟨b, off + i * 5 + 4, none⟩ = some (.int .i64 l[i].weekly) := by
  have hl := spV_length l
  obtain ⟨b, off, e, hc⟩ := h (by omega)
  have g := fun c hc' => flat_get spC 5 (fun _ => rfl) l i hi c hc'
  have q : ∀ c (hc' : c < 5) v, (spC l[i])[c]? = some v → w.cell? ⟨b, off + (i * 5 + c), none⟩ = some v := fun c hc' v hv => by
    have h1 := hc (i * 5 + c) (by omega)
    have h2 := g c hc'
    rw [hv] at h2
    rw [h1]
    have h3 : (spV l)[i * 5 + c]? = some v := h2
    rw [List.getElem?_eq_getElem (by omega)] at h3
    exact h3
  exact ⟨b, off, e, q 0 (by omega) _ rfl, q 1 (by omega) _ rfl, q 2 (by omega) _ rfl, q 3 (by omega) _ rfl, q 4 (by omega) _ rfl⟩

theorem CAt.bd {w : World} {ao : Option Addr} {l : List (Int × Int)} (h : CAt w ao (bdV l)) {i : Nat} (hi : i < l.length) : ∃ b off, ao = some ⟨b, off, none⟩ ∧
    w.cell? ⟨b, off + i * 2, none⟩ = some (.int .i64 l[i].1) ∧ w.cell? ⟨b, off + i * 2 + 1, none⟩ = some (.int .i64 l[i].2) := by
  have hl := bdV_length l
  obtain ⟨b, off, e, hc⟩ := h (by omega)
  have g := fun c hc' => flat_get bdC 2 (fun _ => rfl) l i hi c hc'
  have q : ∀ c (hc' : c < 2) v, (bdC l[i])[c]? = some v → w.cell? ⟨b, off + (i * 2 + c), none⟩ = some v := fun c hc' v hv => by
    have h1 := hc (i * 2 + c) (by omega)
    have h2 := g c hc'
    rw [hv] at h2
    rw [h1]
    have h3 : (bdV l)[i * 2 + c]? = some v := h2
    rw [List.getElem?_eq_getElem (by omega)] at h3
    exact h3
  exact ⟨b, off, e, q 0 (by omega) _ rfl, q 1 (by omega) _ rfl⟩

/-- A slice of ints in memory. -/
theorem CAt.ints {w : World} {ao : Option Addr} {l : List Int} (h : CAt w ao (l.map (Value.int .i64))) {i : Nat} (hi : i < l.length) : ∃ b off, ao = some ⟨b, off, none⟩ ∧ w.cell? ⟨b, off + i, none⟩ = some (.int .i64 l[i]) := by
  obtain ⟨b, off, e, hc⟩ := h (by simp; omega)
  exact ⟨b, off, e, (hc i (by simpa using hi)).trans (by simp)⟩

/-- What a tariff says. -/
structure Tf where
  st : List Stn
  sp : List Spn
  bd : List (Int × Int)
  off : Nat
  bus : Int
  busDaily : Int
  busWeekly : Int
  hopper : Int
  most : Int
  longest : Int
  change : Int
  passback : Int
  delay : Int
  threshold : Int

/-- Where its lists lie. -/
structure Ad where
  aS : Option Addr
  cS : Nat
  aP : Option Addr
  cP : Nat
  aB : Option Addr
  cB : Nat

/-- A tariff's fields. -/
def tc (A : Ad) (t : Tf) : Array Value := #[.slice A.aS t.st.length A.cS, .slice A.aP t.sp.length A.cP, .slice A.aB t.bd.length A.cB, .float .f64 t.off, .int .i64 t.bus, .int .i64 t.busDaily, .int .i64 t.busWeekly,
  .int .i64 t.hopper, .int .i64 t.most, .int .i64 t.longest, .int .i64 t.change, .int .i64 t.passback, .int .i64 t.delay, .int .i64 t.threshold]
def tv (A : Ad) (t : Tf) : Value := .agg (tc A t)

/-- A tariff in memory. -/
structure TAt (w : World) (A : Ad) (t : Tf) : Prop where
  st : CAt w A.aS (stV t.st)
  sp : CAt w A.aP (spV t.sp)
  bd : CAt w A.aB (bdV t.bd)
  lS : (t.st.length + 1) * 24 ≤ 140737488355328
  lP : (t.sp.length + 1) * 40 ≤ 140737488355328
  lB : (t.bd.length + 1) * 16 ≤ 140737488355328
  off : t.off < 18446744073709551616

theorem TAt.keep {w w' : World} {A : Ad} {t : Tf} (h : TAt w A t) (hf : Fr (fun _ => False) w w') : TAt w' A t := ⟨h.st.keep hf, h.sp.keep hf, h.bd.keep hf, h.lS, h.lP, h.lB, h.off⟩

/-- What a look ends with. -/
def look (b : Bool) (c : Int) : Ending := if b then .returned (.tuple #[]) else gave c
theorem look_true (c : Int) : look true c = .returned (.tuple #[]) := rfl
theorem look_false (c : Int) : look false c = gave c := rfl

end Go.Proofs.Ytlhgfnpialndaaa

