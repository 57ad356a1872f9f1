import Derived.Test.YtabhfeocelljdaaGreatDoorSS1
import Derived.Test.YtabhfeocelljdaaGreatDoorWX
import Derived.Lib.AppendZerosOnto
/- Contracts: bytes.Clone, bytes.Equal, sumBytes, slices.Grow, slices.Concat, Frame. -/
namespace Go.Proofs.YtabhfeocelljdaaGreatDoor
open Go.RowKit

/-- What comes out: bytes of its owner's, and nothing that was there has turned. -/
def New (w : World) (bs : List UInt8) (v : Value) (w' : World) : Prop := ∃ g, Row w' v g bs ∧ Fr (fun _ => False) w w' ∧ w.heap.size ≤ g

theorem Row.bat {w : World} {ao : Option Addr} {n cap g : Nat} {bs : List UInt8} (h : Row w (.slice ao n cap) g bs) (hfit : bs.length ≤ 140737488355328) : n = bs.length ∧ BAt w ao cap bs := by
  obtain ⟨ao0, cap0, hv0, h1, h2, h3, h4⟩ := h.shape
  injection hv0 with e1 e2 e3
  subst e1 e3
  refine ⟨e2, fun e => ?_, fun h0 => ⟨g, 0, h3 (by omega), fun j hj => by rw [Nat.zero_add]; exact h.cells j hj⟩, hfit⟩
  have : ¬ 0 < cap := fun hc => by rw [h3 hc] at e; cases e
  omega

theorem sclone_any (w : World) (ao : Option Addr) (cap : Nat) (bs : List UInt8) (hB : BAt w ao cap bs) :
    Calls Tryz.prog 41 #[.slice ao bs.length cap] w fun e w' => ∃ v, e = .returned v ∧ New w bs v w' :=
  (clone_any w ao cap bs hB.1 hB.2.1 hB.2.2).mono fun _ _ ⟨v, g, h1, h2, h3, h4⟩ => ⟨v, h1, g, h2, h3, h4⟩

theorem conv_bytes {w : World} {ao : Option Addr} {cap : Nat} {bs : List UInt8} (h : BAt w ao cap bs) : (convert 23 9 (.slice ao bs.length cap)).run Tryz.prog w = .ok (.string ⟨bs.toArray⟩) w := by
  by_cases hk : 0 < bs.length
  · obtain ⟨b, off, rfl, hc⟩ := h.2.1 hk
    refine run_convert_bytes_back (P := Tryz.prog) w 23 9 5 ⟨b, off, none⟩ cap bs Tryz.underlying23 Tryz.underlying5 Tryz.underlying9 (fun j hj => ?_)
    rw [Addr.add_lit]
    exact hc j hj
  · obtain rfl : bs = [] := List.eq_nil_of_length_eq_zero (by omega)
    cases ao with
    | none =>
      rw [show ([] : List UInt8).length = 0 from rfl, run_convert_bytes_nil w 23 5 Tryz.underlying23 Tryz.underlying5 0 cap 9 Tryz.underlying9]
      rfl
    | some x => exact run_convert_bytes_back (P := Tryz.prog) w 23 9 5 x cap [] Tryz.underlying23 Tryz.underlying5 Tryz.underlying9 (fun j hj => by simp at hj)

/-- A number's four bytes, the lowest first. -/
def le4 (n : Nat) : List UInt8 := [UInt8.ofNat n, UInt8.ofNat (n / 256), UInt8.ofNat (n / 65536), UInt8.ofNat (n / 16777216)]

theorem le4_length (n : Nat) : (le4 n).length = 4 := rfl

theorem Row.fresh (w : World) (bs : List UInt8) (t : TypeId) (hm : bs.length ≤ maxLen) : Row (w.alloc (.cells (bytesV bs).toArray t)) (.slice (some ⟨w.heap.size, 0, none⟩) bs.length bs.length) w.heap.size bs := by
  have hc : ∀ j (hj : j < bs.length), (w.alloc (.cells (bytesV bs).toArray t)).cell? ⟨w.heap.size, j, none⟩ = some (.int .u8 (bs[j].toNat)) := fun j hj => by
    rw [World.cell?_alloc_new, List.getElem?_toArray, bytesV_get _ _ hj]
  exact ⟨⟨_, _, rfl, Nat.le_refl _, hm, fun _ => rfl, fun j hj => ⟨by rw [hc j hj]; rfl, World.frozen?_alloc_new _ _ _ _⟩⟩, hc⟩

theorem le4_cells (n : Nat) (hn : n < 4294967296) : (bytesV (le4 n)).toArray = #[Value.int .u8 ((n : Int) % 256), .int .u8 ((n : Int) / 256 % 256), .int .u8 ((n : Int) / 65536 % 256), .int .u8 ((n : Int) / 16777216)] := by
  simp [bytesV, le4]
  omega

/-- An append whose run is known, as one step of a list of operations. -/
theorem wpList_append_known {P : Program} (w : World) {ops : Array Oper} {rest : List Oper} {o : Oper} {a : Act} {Q : Exit → Act → World → Prop} (hgd : o.guard = none) (s x : Operand) (t tx : TypeId)
    (ho : o.op = .call { callee := .builtin .append, args := #[s, x], argTypes := #[t, tx] }) (sv xv : Value) (hv : a.eval s = sv) (hx : a.eval x = xv) (v : Value) (w' : World)
    (hrun : ∀ ty, (Builtin.append_ #[t, tx] ty #[sv, xv]).run P w = .ok v w') (hK : wpList P ops Q rest (a.put o.dst v) w') : wpList P ops Q (o :: rest) a w := by
  refine wpList_plain hgd fun K hK' => ?_
  unfold Oper.wp
  simp [execOp, ho, resolve, invoke, builtin, hv, hx, hrun, Result.andThen]
  exact hK' _ _ hK

theorem Row.empty {w : World} {g C : Nat} (hm : C ≤ maxLen) (hr : ∀ j, j < C → (w.cell? ⟨g, j, none⟩).isSome = true ∧ w.frozen? ⟨g, j, none⟩ = false) : Row w (.slice (some ⟨g, 0, none⟩) 0 C) g [] :=
  ⟨⟨_, _, rfl, Nat.zero_le _, hm, fun _ => rfl, hr⟩, fun j hj => absurd hj (by simp)⟩

end Go.Proofs.YtabhfeocelljdaaGreatDoor

