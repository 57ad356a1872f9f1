import Derived.Test.YtlhgfnpialndaaaK2
import Derived.Deep.RegionLaw
/- Lists of records, read and written. -/
namespace Go.Proofs.Ytlhgfnpialndaaa
open Go.RowKit

/-- An outage. -/
structure Otg where
  st : Int
  fr : Int
  to : Int
def otC (q : Otg) : List Value := [.int .i64 q.st, .int .i64 q.fr, .int .i64 q.to]
def otV (l : List Otg) : List Value := l.flatMap otC
def tkC (q : ByteArray) : List Value := [.string q]
def tkV (l : List ByteArray) : List Value := l.flatMap tkC
theorem otV_length (l : List Otg) : (otV l).length = l.length * 3 := flat_length otC 3 (fun _ => rfl) l
theorem tkV_length (l : List ByteArray) : (tkV l).length = l.length * 1 := flat_length tkC 1 (fun _ => rfl) l

/-- The pieces of a token. -/
abbrev tokenK : List Kd := [.fix 8]

theorem cat_cell {w : World} {ao : Option Addr} {α : Type} (f : α → List Value) (k : Nat) (hf : ∀ x, (f x).length = k) {l : List α} (h : CAt w ao (l.flatMap f)) {i : Nat} (hi : i < l.length) (hk : 0 < k) :
    ∃ b off, ao = some ⟨b, off, none⟩ ∧ ∀ c, c < k → w.cell? ⟨b, off + i * k + c, none⟩ = (f l[i])[c]? := by
  have hL := flat_length f k hf l
  have hlt : ∀ c, c < k → i * k + c < (l.flatMap f).length := fun c hc => by
    rw [hL]
    have : (i + 1) * k ≤ l.length * k := Nat.mul_le_mul_right k hi
    rw [Nat.succ_mul] at this
    omega
  obtain ⟨b, off, e, hc⟩ := h (by have := hlt 0 hk; omega)
  refine ⟨b, off, e, fun c hck => ?_⟩
  rw [Nat.add_assoc, hc _ (hlt c hck), ← flat_get f k hf l i hi c hck, List.getElem?_eq_getElem (hlt c hck)]

theorem tokenE_r {w : World} {p g b : Nat} {bs : List UInt8} {s : RS} {t : TypeId} (x0 : Value) (h : RB w p g b bs s #[x0] t) :
    Calls Try.prog 47 #[walkR p, .pointer (some ⟨b, 0, none⟩)] w (RDone p g b bs (rdL bs tokenK s).2 (rdL bs tokenK s).1.toArray t w) := by
  refine (token_r h 0 (by simp)).mono ?_
  rintro e w' ⟨h1, h2, h3⟩
  exact ⟨h1, by simpa [tokenK, rdL] using h2, h3⟩

theorem tokenE_w {w : World} {p g b : Nat} {st : Option (List UInt8)} {t : TypeId} (x0 : ByteArray) (h : WB w p g b st #[.string x0] t) (L : Nat) (hL : Most st L) (hfit : L + 66200 ≤ 140737488355328) :
    Calls Try.prog 47 #[walkW p, .pointer (some ⟨b, 0, none⟩)] w (WDone p g (stepW st (wrL tokenK [.string x0])) w) := by
  refine (token_w h 0 x0 rfl L hL (by omega)).mono ?_
  rintro e w' ⟨h1, h2⟩
  exact ⟨h1, by simpa only [tokenK, wrL, stepW_nil] using h2⟩

theorem Token_shape (bs : List UInt8) (s : RS) : ∃ n0, (rdL bs tokenK s).1 = [.string n0] := by
  obtain ⟨n, h⟩ := rd_fix bs 8 s
  exact ⟨n, by simp [rdL, h]⟩

theorem Token_info : (Try.prog.info? 9).map (fun i => (i.zero, i.size, i.bytes)) = some (some (.string ⟨#[]⟩), 1, 16) := by kernel_rfl

theorem Outage_shape (bs : List UInt8) (s : RS) : ∃ n0 n1 n2, (rdL bs outageK s).1 = [.int .i64 n0, .int .i64 n1, .int .i64 n2] := by
  have h : ∀ (n : Nat) (s : RS), ∃ m, ((Kd.num n).rd bs s).1 = .int .i64 m := fun n s => rd_num bs _ s (Or.inl ⟨_, rfl⟩)
  simp only [rdL, List.cons.injEq, and_true]
  obtain ⟨a, ha⟩ := h _ _
  obtain ⟨b, hb⟩ := h _ _
  obtain ⟨c, hc⟩ := h _ _
  exact ⟨a, b, c, ha, hb, hc⟩

theorem Station_shape (bs : List UInt8) (s : RS) : ∃ n0 n1 n2, (rdL bs stationK s).1 = [.int .i64 n0, .int .i64 n1, .int .i64 n2] := by
  have h : ∀ (n : Nat) (s : RS), ∃ m, ((Kd.num n).rd bs s).1 = .int .i64 m := fun n s => rd_num bs _ s (Or.inl ⟨_, rfl⟩)
  simp only [rdL, List.cons.injEq, and_true]
  obtain ⟨a, ha⟩ := h _ _
  obtain ⟨b, hb⟩ := h _ _
  obtain ⟨c, hc⟩ := h _ _
  exact ⟨a, b, c, ha, hb, hc⟩

theorem Span_shape (bs : List UInt8) (s : RS) : ∃ n0 n1 n2 n3 n4, (rdL bs spanK s).1 = [.int .i64 n0, .int .i64 n1, .int .i64 n2, .int .i64 n3, .int .i64 n4] := by
  have h : ∀ (n : Nat) (s : RS), ∃ m, ((Kd.num n).rd bs s).1 = .int .i64 m := fun n s => rd_num bs _ s (Or.inl ⟨_, rfl⟩)
  simp only [rdL, List.cons.injEq, and_true]
  obtain ⟨a, ha⟩ := h _ _
  obtain ⟨b, hb⟩ := h _ _
  obtain ⟨c, hc⟩ := h _ _
  obtain ⟨d, hd⟩ := h _ _
  obtain ⟨e, he⟩ := h _ _
  exact ⟨a, b, c, d, e, ha, hb, hc, hd, he⟩

theorem Band_shape (bs : List UInt8) (s : RS) : ∃ n0 n1, (rdL bs bandK s).1 = [.int .i64 n0, .int .i64 n1] := by
  have h : ∀ (n : Nat) (s : RS), ∃ m, ((Kd.num n).rd bs s).1 = .int .i64 m := fun n s => rd_num bs _ s (Or.inl ⟨_, rfl⟩)
  simp only [rdL, List.cons.injEq, and_true]
  obtain ⟨a, ha⟩ := h _ _
  obtain ⟨b, hb⟩ := h _ _
  exact ⟨a, b, ha, hb⟩

end Go.Proofs.Ytlhgfnpialndaaa

