/- Contracts: Join; the law's own examples (awake). -/
import Derived.Test.YtgbaofdbdpopnaaDoorS7
import Derived.Test.YtgbaofdbdpopnaaDoorS4
import Derived.Lib.SlBytesConst
namespace Go.Proofs.YtgbaofdbdpopnaaDoor
open Go.RowKit

/-- What Join answers. -/
def joinV (x y n : Int) : Value := if isS x = true ∧ isS y = true ∧ 0 ≤ n then .tuple #[.int .i64 (joinF x.toNat y.toNat n.toNat), .int .i64 0] else .tuple #[.int .i64 0, .int .i64 1]

theorem joinV_no {x y n : Int} (h : ¬ (isS x = true ∧ isS y = true ∧ 0 ≤ n)) : joinV x y n = .tuple #[.int .i64 0, .int .i64 1] := if_neg h
theorem joinV_nat {x y : Nat} (n : Nat) (hx : x < 4294967296) (hy : y < 4294967296) : joinV x y n = .tuple #[.int .i64 (joinF x y n), .int .i64 0] := by
  rw [joinV, if_pos ⟨isS_of hx, isS_of hy, by omega⟩, Int.toNat_natCast, Int.toNat_natCast, Int.toNat_natCast]

theorem join_any (w : World) (hT : TabAt w) (x y n : Int) (hn : n < 9223372036854775808) :
    Calls Tryd.prog 16 #[.int .i64 x, .int .i64 y, .int .i64 n] w fun e w' => e = .returned (joinV x y n) ∧ Fr (fun _ => False) w w' := by
  have HT := hide hT
  clear hT
  by_cases hx : isS x = true
  · by_cases hy : isS y = true
    · by_cases h0 : 0 ≤ n
      · obtain ⟨X, rfl, hX⟩ := isS_nat hx
        obtain ⟨Y, rfl, hY⟩ := isS_nat hy
        obtain ⟨m, rfl⟩ : ∃ m : Nat, n = m := ⟨n.toNat, by omega⟩
        rw [joinV_nat m hX hY]
        have hw : IntKind.u32.wrap (X : Int) = (X : Int) := by rw [IntKind.wrap_u32']; omega
        have hl := trn_lt (8 * m) hX
        have hxx : bits .xor .i64 ((trn (8 * m) X : Nat) : Int) (Y : Int) = ((joinF X Y m : Nat) : Int) := i64_xor_nat _ Y (by omega) (by omega)
        have hd : decide ((m : Int) < 0) = false := by simp
        go_enter Tryd.func16, Tryd.ntmps16
        go_wp2_with fail
        refine (issum_any _ _).mono ?_
        rintro e w1 ⟨rfl, rfl⟩
        rw [hx]
        go_wp2_with fail
        refine (issum_any _ _).mono ?_
        rintro e w1 ⟨rfl, rfl⟩
        rw [hy]
        go_wp2_with fail
        refine (behind_any _ (unhide HT) X m hX (by omega)).mono ?_
        rintro e w1 ⟨rfl, hF⟩
        have HF := hide hF
        clear hF
        go_wp2
        go_ret2
        exact ⟨rfl, unhide HF⟩
      · rw [joinV_no (fun t => h0 t.2.2)]
        have hd : decide (n < 0) = true := by simp; omega
        go_enter Tryd.func16, Tryd.ntmps16
        go_wp2_with fail
        refine (issum_any _ _).mono ?_
        rintro e w1 ⟨rfl, rfl⟩
        rw [hx]
        go_wp2_with fail
        refine (issum_any _ _).mono ?_
        rintro e w1 ⟨rfl, rfl⟩
        rw [hy]
        go_wp2
        go_ret2
        exact ⟨rfl, Fr.refl _ _⟩
    · rw [joinV_no (fun t => hy t.2.1)]
      have hy2 : isS y = false := by simpa using hy
      clear hy
      go_enter Tryd.func16, Tryd.ntmps16
      go_wp2_with fail
      refine (issum_any _ _).mono ?_
      rintro e w1 ⟨rfl, rfl⟩
      rw [hx]
      go_wp2_with fail
      refine (issum_any _ _).mono ?_
      rintro e w1 ⟨rfl, rfl⟩
      rw [hy2]
      go_wp2
      go_ret2
      exact ⟨rfl, Fr.refl _ _⟩
  · rw [joinV_no (fun t => hx t.1)]
    have hx2 : isS x = false := by simpa using hx
    clear hx
    go_enter Tryd.func16, Tryd.ntmps16
    go_wp2_with fail
    refine (issum_any _ _).mono ?_
    rintro e w1 ⟨rfl, rfl⟩
    rw [hx2]
    go_wp2
    go_ret2
    exact ⟨rfl, Fr.refl _ _⟩

theorem aw_sum : sumF [49, 50, 51, 52, 53, 54, 55, 56, 57] = 3808858755 := by decide +kernel
theorem aw_join : joinF (sumF [49, 50, 51, 52]) (sumF [53, 54, 55, 56, 57]) 5 = 3808858755 := by decide +kernel
theorem aw_frame : frameF [97] = [97, 48, 67, 208, 193] := by decide +kernel
theorem aw_open : openF [97, 48, 67, 208, 193] = some [97] := by decide +kernel
theorem aw_more : moreV (-1) [] = .tuple #[.int .i64 0, .int .i64 1] := rfl

/-- A literal's bytes. -/
theorem bat_lit (w : World) (bs : List UInt8) (t : TypeId) (fr : Nat × Nat) (hm : bs.length ≤ 140737488355328) : BAt (w.alloc (.cells (bytesV bs).toArray t fr)) (some ⟨w.heap.size, 0, none⟩) bs.length bs := by
  refine ⟨fun e => (by cases e), fun _ => ⟨_, _, rfl, fun j hj => ?_⟩, hm⟩
  rw [Nat.zero_add, cell_of_row _ _ _ _ t fr (heap_alloc_new w _), List.getElem?_toArray, bytesV_get _ _ hj]

set_option maxHeartbeats 1000000 in
theorem awake_any (w : World) (hT : TabAt w) : Calls Tryd.prog 9 #[] w fun e w' => e = .returned (.bool true) ∧ Fr (fun _ => False) w w' := by
  have HT := hide hT
  clear hT
  have hcv := fun (w : World) (C : Array Value) (n c : Nat) => Lib.run_convert_bytes_const (P := Tryd.prog) w 22 5 C n c Tryd.underlying22 Tryd.underlying5
  go_enter Tryd.func9, Tryd.ntmps9
  go_wp2_with fail
  have hF1 := (Fr.refl (fun _ => False) w).alloc (.cells (bytesV [49, 50, 51, 52, 53, 54, 55, 56, 57]).toArray 5 (9, 10))
  have HF1 := hide hF1
  refine (sum_any _ ((unhide HT).later hF1) _ 9 [49, 50, 51, 52, 53, 54, 55, 56, 57] (bat_lit w [49, 50, 51, 52, 53, 54, 55, 56, 57] 5 _ (by simp))).mono ?_
  rintro e w1 ⟨rfl, hw1⟩
  rw [← hw1] at HF1
  clear hw1 hF1
  rw [aw_sum]
  go_wp2_with fail
  have hF2 := (unhide HF1).alloc (.cells (bytesV [49, 50, 51, 52]).toArray 5 (4, 5))
  have HF2 := hide hF2
  refine (sum_any _ ((unhide HT).later hF2) _ 4 [49, 50, 51, 52] (bat_lit w1 [49, 50, 51, 52] 5 _ (by simp))).mono ?_
  rintro e w2 ⟨rfl, hw2⟩
  rw [← hw2] at HF2
  clear hw2 hF2
  go_wp2_with fail
  have hF3 := (unhide HF2).alloc (.cells (bytesV [53, 54, 55, 56, 57]).toArray 5 (5, 6))
  have HF3 := hide hF3
  refine (sum_any _ ((unhide HT).later hF3) _ 5 [53, 54, 55, 56, 57] (bat_lit w2 [53, 54, 55, 56, 57] 5 _ (by simp))).mono ?_
  rintro e w3 ⟨rfl, hw3⟩
  rw [← hw3] at HF3
  clear hw3 hF3
  go_wp2_with fail
  have hj := join_any w3 ((unhide HT).later (unhide HF3)) (sumF [49, 50, 51, 52]) (sumF [53, 54, 55, 56, 57]) 5 (by omega)
  rw [show (5 : Int) = ((5 : Nat) : Int) from rfl, joinV_nat 5 (sumF_lt _) (sumF_lt _), aw_join] at hj
  refine hj.mono ?_
  rintro e w4 ⟨rfl, hF4⟩
  have HF4 := hide ((unhide HF3).trans hF4 (fun _ _ t => t))
  clear hF4 hj
  go_wp2_with fail
  have hF5 := (unhide HF4).alloc (.cells (bytesV [97]).toArray 5 (1, 2))
  have HF5 := hide hF5
  refine (frame_any _ ((unhide HT).later hF5) _ 1 [97] (bat_lit w4 [97] 5 _ (by simp)) (by simp)).mono ?_
  rw [aw_frame]
  rintro e w6 ⟨v, rfl, g, hrow, hF6, hg⟩
  obtain ⟨ao, cap, rfl, hlc, _⟩ := hrow.shape
  have HF6 := hide ((unhide HF5).trans hF6 (fun _ _ t => t))
  have HR := hide (hrow.bat (by simp)).2
  clear hF5 hF6 hrow hg
  go_wp2_with fail
  refine (open_any _ ((unhide HT).later (unhide HF6)) ao cap [97, 48, 67, 208, 193] (unhide HR) hlc).mono ?_
  rw [aw_open]
  rintro e w7 ⟨v, rfl, g7, hrow7, hF7, hg7⟩
  obtain ⟨ao7, cap7, rfl, _⟩ := hrow7.shape
  have HF7 := hide ((unhide HF6).trans hF7 (fun _ _ t => t))
  have c1 : (convert 22 9 (.slice ao 5 cap)).run Tryd.prog w7 = .ok (.string ⟨#[97, 48, 67, 208, 193]⟩) w7 := conv_bytes ((unhide HR).later hF7)
  have c2 : (convert 22 9 (.slice ao7 1 cap7)).run Tryd.prog w7 = .ok (.string ⟨#[97]⟩) w7 := conv_bytes (hrow7.bat (by simp)).2
  clear hF7 hrow7 hg7
  go_wp2_with fail
  refine (More_any _ ((unhide HT).later (unhide HF7)) (-1) none 0 [] ⟨fun _ => ⟨rfl, rfl⟩, fun h => absurd h (by simp), by simp⟩).mono ?_
  rw [aw_more]
  rintro e w8 ⟨rfl, rfl⟩
  go_wp2
  go_ret
  exact ⟨rfl, unhide HF7⟩

end Go.Proofs.YtgbaofdbdpopnaaDoor
