import Derived.Test.YtmhljehkodhggaaGreatN2
/- Records of a fixed number of pieces, read and written. -/
namespace Go.Proofs.YtmhljehkodhggaaGreat
open Go.RowKit

theorem ptrs1 (w : World) (b o : Nat) (T : TypeId) : Ptrs (w.alloc (.cells #[.pointer (some ⟨b, o, none⟩)] T)) w.heap.size b o 1 := fun j hj => by
  obtain rfl : j = 0 := by omega
  simp
theorem ptrs2 (w : World) (b o : Nat) (T : TypeId) : Ptrs (w.alloc (.cells #[.pointer (some ⟨b, o, none⟩), .pointer (some ⟨b, o + 1, none⟩)] T)) w.heap.size b o 2 := fun j hj => by
  match j, hj with
  | 0, _ => simp
  | 1, _ => simp
theorem ptrs3 (w : World) (b o : Nat) (T : TypeId) : Ptrs (w.alloc (.cells #[.pointer (some ⟨b, o, none⟩), .pointer (some ⟨b, o + 1, none⟩), .pointer (some ⟨b, o + 2, none⟩)] T)) w.heap.size b o 3 := fun j hj => by
  match j, hj with
  | 0, _ => simp
  | 1, _ => simp
  | 2, _ => simp
theorem ptrs4 (w : World) (b o : Nat) (T : TypeId) : Ptrs (w.alloc (.cells #[.pointer (some ⟨b, o, none⟩), .pointer (some ⟨b, o + 1, none⟩), .pointer (some ⟨b, o + 2, none⟩), .pointer (some ⟨b, o + 3, none⟩)] T)) w.heap.size b o 4 := fun j hj => by
  match j, hj with
  | 0, _ => simp
  | 1, _ => simp
  | 2, _ => simp
  | 3, _ => simp

/-- The pieces of tap. -/
abbrev tapK : List Kd := [.num 2, .num 4, .fix 8, .num 1, .num 2, .num 4]

/-- The pieces of entry. -/
abbrev entryK : List Kd := [.num 4, .fix 8, .int, .bool]

/-- The pieces of account. -/
abbrev accountK : List Kd := [.fix 8, .num 8, .num 8]

/-- The pieces of outage. -/
abbrev outageK : List Kd := [.num 2, .num 4, .num 4]

/-- The pieces of station. -/
abbrev stationK : List Kd := [.num 2, .num 1, .num 2]

/-- The pieces of span. -/
abbrev spanK : List Kd := [.num 1, .num 1, .num 4, .num 4, .num 4]

/-- The pieces of band. -/
abbrev bandK : List Kd := [.num 2, .num 2]

end Go.Proofs.YtmhljehkodhggaaGreat

