import Derived.Test.YtmgejkenpfihmaaGreatJM0
import Derived.Test.YtmgejkenpfihmaaGreatN7
import Derived.Laws.StructEq
import Derived.Deep.Cut
import Derived.Deep.CutBlock
import Derived.Deep.MidRow
/- How taps stand: cmp.Compare, cmp.Or, Order; journeys and taps compared as whole structs. -/
namespace Go.Proofs.YtmgejkenpfihmaaGreat
open Go.RowKit

/-- How two numbers stand. -/
def cmpI (a b : Int) : Int := if a < b then -1 else if b < a then 1 else 0
/-- How two taps stand. -/
def ordI (a b : Tp) : Int := if cmpI a.time b.time ≠ 0 then cmpI a.time b.time else if cmpI a.dev b.dev ≠ 0 then cmpI a.dev b.dev else cmpI a.ctr b.ctr

theorem notnan_any (w : World) (n : Int) : Calls Tryz.prog 47 #[.int .i64 n] w fun e w' => e = .returned (.bool false) ∧ w' = w := by
  go_enter Tryz.func47, Tryz.ntmps47
  go_wp2
  go_ret
  exact ⟨by simp, rfl⟩

theorem cmp_any (w : World) (a b : Int) : Calls Tryz.prog 28 #[.int .i64 a, .int .i64 b] w fun e w' => e = .returned (.int .i64 (cmpI a b)) ∧ w' = w := by
  have R1 := hide (notnan_any w a)
  have R2 := hide (notnan_any w b)
  obtain ⟨r, Hr⟩ : ∃ r, Hid (cmpI a b = r) := ⟨_, rfl⟩
  rw [unhide Hr]
  by_cases h1 : a < b
  · obtain rfl : r = -1 := by rw [← unhide Hr]; simp [cmpI, h1]
    clear Hr
    go_enter Tryz.func28, Tryz.ntmps28
    go_wp2_with fail
    refine (unhide R1).mono ?_
    rintro e w1 ⟨rfl, rfl⟩
    go_wp2_with fail
    refine (unhide R2).mono ?_
    rintro e w1 ⟨rfl, rfl⟩
    go_wp2
    go_ret
    exact ⟨rfl, rfl⟩
  · by_cases h2 : b < a
    · obtain rfl : r = 1 := by rw [← unhide Hr]; simp [cmpI, h1, h2]
      clear Hr
      go_enter Tryz.func28, Tryz.ntmps28
      go_wp2_with fail
      refine (unhide R1).mono ?_
      rintro e w1 ⟨rfl, rfl⟩
      go_wp2_with fail
      refine (unhide R2).mono ?_
      rintro e w1 ⟨rfl, rfl⟩
      go_wp2
      go_ret
      exact ⟨rfl, rfl⟩
    · obtain rfl : r = 0 := by rw [← unhide Hr]; simp [cmpI, h1, h2]
      clear Hr
      go_enter Tryz.func28, Tryz.ntmps28
      go_wp2_with fail
      refine (unhide R1).mono ?_
      rintro e w1 ⟨rfl, rfl⟩
      go_wp2_with fail
      refine (unhide R2).mono ?_
      rintro e w1 ⟨rfl, rfl⟩
      go_wp2
      go_ret
      exact ⟨rfl, rfl⟩

/-- The first of three numbers that is not 0. -/
def or3 (x y z : Int) : Int := if x ≠ 0 then x else if y ≠ 0 then y else z

def OrR (x y z : Int) (w : World) (iv : Value) (wr : World) : Prop := wr = w ∧ (iv = .int .i64 0 ∨ (iv = .int .i64 1 ∧ x = 0) ∨ (iv = .int .i64 2 ∧ x = 0 ∧ y = 0) ∨ (iv = .int .i64 3 ∧ x = 0 ∧ y = 0 ∧ z = 0))

theorem cmpor_any (w : World) (g : Nat) (x y z : Int) (c0 : w.cell? ⟨g, 0, none⟩ = some (.int .i64 x)) (c1 : w.cell? ⟨g, 1, none⟩ = some (.int .i64 y)) (c2 : w.cell? ⟨g, 2, none⟩ = some (.int .i64 z)) :
    Calls Tryz.prog 27 #[.slice (some ⟨g, 0, none⟩) 3 3] w fun e w' => e = .returned (.int .i64 (or3 x y z)) ∧ w' = w := by
  obtain ⟨r, Hr⟩ : ∃ r, Hid (or3 x y z = r) := ⟨_, rfl⟩
  rw [unhide Hr]
  go_enter Tryz.func27, Tryz.ntmps27
  go_wp2
  go_loopw [5, 8] (fun _ iv wr => OrR x y z w iv wr) (fun _ iv _ => 3 - (intOf iv).toNat)
  case atStart => exact ⟨rfl, .inl rfl⟩
  case round =>
    obtain ⟨rfl, rfl | ⟨rfl, HX⟩ | ⟨rfl, HX⟩ | ⟨rfl, HX⟩⟩ := hrel
    all_goals try (have HX := hide HX)
    · by_cases hx : x = 0
      · have HX : Hid (x = 0) := hide hx
        have hb : (x != 0) = false := by simp [hx]
        clear hx
        go_wp2
        exact ⟨⟨rfl, .inr (.inl ⟨rfl, unhide HX⟩)⟩, by simp [intOf]⟩
      · have hb : (x == 0) = false := by simp [hx]
        have hb2 : (x != 0) = true := by simp [hx]
        have HE : Hid (r = x) := hide (by rw [← unhide Hr]; simp [or3, hx])
        clear hx
        go_wp2
        go_ret
        exact ⟨by rw [unhide HE]; rfl, rfl⟩
    · by_cases hx : y = 0
      · have HY : Hid (x = 0 ∧ y = 0) := hide ⟨unhide HX, hx⟩
        have hb : (y != 0) = false := by simp [hx]
        clear hx HX
        go_wp2
        exact ⟨⟨rfl, .inr (.inr (.inl ⟨rfl, unhide HY⟩))⟩, by simp [intOf]⟩
      · have hb : (y == 0) = false := by simp [hx]
        have hb2 : (y != 0) = true := by simp [hx]
        have HE : Hid (r = y) := hide (by rw [← unhide Hr]; simp [or3, hx, unhide HX])
        clear hx HX
        go_wp2
        go_ret
        exact ⟨by rw [unhide HE]; rfl, rfl⟩
    · by_cases hx : z = 0
      · have HY : Hid (x = 0 ∧ y = 0 ∧ z = 0) := hide ⟨(unhide HX).1, (unhide HX).2, hx⟩
        have hb : (z != 0) = false := by simp [hx]
        clear hx HX
        go_wp2
        exact ⟨⟨rfl, .inr (.inr (.inr ⟨rfl, unhide HY⟩))⟩, by simp [intOf]⟩
      · have hb : (z == 0) = false := by simp [hx]
        have hb2 : (z != 0) = true := by simp [hx]
        have HE : Hid (r = z) := hide (by rw [← unhide Hr]; simp [or3, (unhide HX).1, (unhide HX).2])
        clear hx HX
        go_wp2
        go_ret
        exact ⟨by rw [unhide HE]; rfl, rfl⟩
    · have HE : Hid (r = 0) := hide (by rw [← unhide Hr]; simp [or3, (unhide HX).1, (unhide HX).2.1, (unhide HX).2.2])
      clear HX
      go_wp2
      go_ret
      exact ⟨by rw [unhide HE]; rfl, rfl⟩

theorem ord_eq (a b : Tp) : or3 (cmpI a.time b.time) (cmpI a.dev b.dev) (cmpI a.ctr b.ctr) = ordI a b := rfl

set_option maxHeartbeats 1000000 in
theorem order_any (w : World) (a b : Tp) : Calls Tryz.prog 13 #[.agg (tpC a), .agg (tpC b)] w fun e w' => e = .returned (.int .i64 (ordI a b)) ∧ Fr (fun _ => False) w w' := by
  rw [← ord_eq]
  obtain ⟨d1, k1, t1, q1, p1, m1⟩ := a
  obtain ⟨d2, k2, t2, q2, p2, m2⟩ := b
  simp only [tpC]
  have R1 := hide (fun w => cmp_any w m1 m2)
  have R2 := hide (fun w => cmp_any w d1 d2)
  have R3 := hide (fun w => cmp_any w k1 k2)
  generalize cmpI m1 m2 = x at *
  generalize cmpI d1 d2 = y at *
  generalize cmpI k1 k2 = z at *
  have R4 : Hid (∀ w g, w.cell? ⟨g, 0, none⟩ = some (.int .i64 x) → w.cell? ⟨g, 1, none⟩ = some (.int .i64 y) → w.cell? ⟨g, 2, none⟩ = some (.int .i64 z) → Calls Tryz.prog 27 #[.slice (some ⟨g, 0, none⟩) 3 3] w fun e w' => e = .returned (.int .i64 (or3 x y z)) ∧ w' = w) := hide (fun w g => cmpor_any w g x y z)
  generalize or3 x y z = r at *
  go_enter Tryz.func13, Tryz.ntmps13
  go_upto_region 1 with (fail)
  obtain ⟨v, hv⟩ : ∃ v, v = (w.alloc (.cells #[.int .i64 d1, .int .i64 k1, .string t1, .int .i64 q1, .int .i64 p1, .int .i64 m1] 24)).alloc (.cells #[.int .i64 d2, .int .i64 k2, .string t2, .int .i64 q2, .int .i64 p2, .int .i64 m2] 24) := ⟨_, rfl⟩
  have b1 : v.cell? ⟨w.heap.size, 0, none⟩ = some (.int .i64 d1) := by rw [hv]; simp [go_sem]
  have b2 : v.cell? ⟨w.heap.size, 1, none⟩ = some (.int .i64 k1) := by rw [hv]; simp [go_sem]
  have b3 : v.cell? ⟨w.heap.size, 5, none⟩ = some (.int .i64 m1) := by rw [hv]; simp [go_sem]
  have b4 : v.cell? ⟨w.heap.size + 1, 0, none⟩ = some (.int .i64 d2) := by rw [hv]; simp [go_sem]
  have b5 : v.cell? ⟨w.heap.size + 1, 1, none⟩ = some (.int .i64 k2) := by rw [hv]; simp [go_sem]
  have b6 : v.cell? ⟨w.heap.size + 1, 5, none⟩ = some (.int .i64 m2) := by rw [hv]; simp [go_sem]
  have HV : Hid (Fr (fun _ => False) w v) := hide (by rw [hv]; exact ((Fr.refl _ w).alloc _).alloc _)
  rw [← hv]
  generalize w.heap.size + 1 = B at *
  generalize w.heap.size = A at *
  clear hv
  go_region_held3 (fun u => u.cell? ⟨A, 0, none⟩ = some (.int .i64 d1) ∧ u.cell? ⟨A, 1, none⟩ = some (.int .i64 k1) ∧ u.cell? ⟨A, 5, none⟩ = some (.int .i64 m1) ∧ u.cell? ⟨B, 0, none⟩ = some (.int .i64 d2) ∧ u.cell? ⟨B, 1, none⟩ = some (.int .i64 k2) ∧ u.cell? ⟨B, 5, none⟩ = some (.int .i64 m2)) (go_keep)
    (first | (go_at_call 27; refine (unhide R4 _ _ (by simp [go_sem]) (by simp [go_sem]) (by simp [go_sem])).mono ?_; rintro e w1 ⟨rfl, rfl⟩) | (go_at_call_of 28 (Value.int IntKind.i64 m1); refine (unhide R1 _).mono ?_; rintro e w1 ⟨rfl, rfl⟩) | (go_at_call_of 28 (Value.int IntKind.i64 d1); refine (unhide R2 _).mono ?_; rintro e w1 ⟨rfl, rfl⟩) | (go_at_call_of 28 (Value.int IntKind.i64 k1); refine (unhide R3 _).mono ?_; rintro e w1 ⟨rfl, rfl⟩))
  go_wp2
  go_ret
  exact ⟨rfl, by first | exact (unhide HV).drew.alloc _ | exact ((unhide HV).alloc _).drew | exact (unhide HV).alloc _⟩

end Go.Proofs.YtmgejkenpfihmaaGreat

