import Derived.Test.YtjgbllfppomcmaaGreatJM0
import Derived.Test.YtjgbllfppomcmaaGreatKNX
import Derived.Laws.StructEq
import Derived.Deep.Cut
import Derived.Deep.CutBlock
import Derived.Deep.MidRow
import Derived.Test.YtjgbllfppomcmaaGreatJK0
import Derived.Test.YtjgbllfppomcmaaGreatQST
/- How taps stand: cmp.Compare, cmp.Or, Order; journeys and taps compared as whole structs. -/
namespace Go.Proofs.YtjgbllfppomcmaaGreat
open Go.RowKit

/-- How two numbers stand. -/
def cmpI (a b : Int) : Int := if a < b then -1 else if b < a then 1 else 0
/-- How two taps stand. -/
def ordI (a b : Tp) : Int := if cmpI a.time b.time ≠ 0 then cmpI a.time b.time else if cmpI a.dev b.dev ≠ 0 then cmpI a.dev b.dev else cmpI a.ctr b.ctr

theorem notnan_any (w : World) (n : Int) : Calls Tryz.prog 160 #[.int .i64 n] w fun e w' => e = .returned (.bool false) ∧ w' = w := by
  go_enter Tryz.func160, Tryz.ntmps160
  go_wp2
  go_ret
  exact ⟨by simp, rfl⟩

theorem cmp_any (w : World) (a b : Int) : Calls Tryz.prog 134 #[.int .i64 a, .int .i64 b] w fun e w' => e = .returned (.int .i64 (cmpI a b)) ∧ w' = w := by
  have R1 := hide (notnan_any w a)
  have R2 := hide (notnan_any w b)
  obtain ⟨r, Hr⟩ : ∃ r, Hid (cmpI a b = r) := ⟨_, rfl⟩
  rw [unhide Hr]
  by_cases h1 : a < b
  · obtain rfl : r = -1 := by rw [← unhide Hr]; simp [cmpI, h1]
    clear Hr
    go_enter Tryz.func134, Tryz.ntmps134
    go_wp2_with fail
    refine (unhide R1).mono ?_
    rintro e w1 ⟨rfl, rfl⟩
    go_wp2_with fail
    refine (unhide R2).mono ?_
    rintro e w1 ⟨rfl, rfl⟩
    go_wp2
    go_ret
    exact ⟨rfl, rfl⟩
  · by_cases h2 : b < a
    · obtain rfl : r = 1 := by rw [← unhide Hr]; simp [cmpI, h1, h2]
      clear Hr
      go_enter Tryz.func134, Tryz.ntmps134
      go_wp2_with fail
      refine (unhide R1).mono ?_
      rintro e w1 ⟨rfl, rfl⟩
      go_wp2_with fail
      refine (unhide R2).mono ?_
      rintro e w1 ⟨rfl, rfl⟩
      go_wp2
      go_ret
      exact ⟨rfl, rfl⟩
    · obtain rfl : r = 0 := by rw [← unhide Hr]; simp [cmpI, h1, h2]
      clear Hr
      go_enter Tryz.func134, Tryz.ntmps134
      go_wp2_with fail
      refine (unhide R1).mono ?_
      rintro e w1 ⟨rfl, rfl⟩
      go_wp2_with fail
      refine (unhide R2).mono ?_
      rintro e w1 ⟨rfl, rfl⟩
      go_wp2
      go_ret
      exact ⟨rfl, rfl⟩

/-- The first of three numbers that is not 0. -/
def or3 (x y z : Int) : Int := if x ≠ 0 then x else if y ≠ 0 then y else z

def OrR (x y z : Int) (w : World) (iv : Value) (wr : World) : Prop := wr = w ∧ (iv = .int .i64 0 ∨ (iv = .int .i64 1 ∧ x = 0) ∨ (iv = .int .i64 2 ∧ x = 0 ∧ y = 0) ∨ (iv = .int .i64 3 ∧ x = 0 ∧ y = 0 ∧ z = 0))

theorem cmpor_any (w : World) (g : Nat) (x y z : Int) (c0 : w.cell? ⟨g, 0, none⟩ = some (.int .i64 x)) (c1 : w.cell? ⟨g, 1, none⟩ = some (.int .i64 y)) (c2 : w.cell? ⟨g, 2, none⟩ = some (.int .i64 z)) :
    Calls Tryz.prog 133 #[.slice (some ⟨g, 0, none⟩) 3 3] w fun e w' => e = .returned (.int .i64 (or3 x y z)) ∧ w' = w := by
  obtain ⟨r, Hr⟩ : ∃ r, Hid (or3 x y z = r) := ⟨_, rfl⟩
  rw [unhide Hr]
  go_enter Tryz.func133, Tryz.ntmps133
  go_wp2
  go_loopw [5, 8] (fun _ iv wr => OrR x y z w iv wr) (fun _ iv _ => 3 - (intOf iv).toNat)
  case atStart => exact ⟨rfl, .inl rfl⟩
  case round =>
    obtain ⟨rfl, rfl | ⟨rfl, HX⟩ | ⟨rfl, HX⟩ | ⟨rfl, HX⟩⟩ := hrel
    all_goals try (have HX := hide HX)
    · by_cases hx : x = 0
      · have HX : Hid (x = 0) := hide hx
        have hb : (x != 0) = false := by simp [hx]
        clear hx
        go_wp2
        exact ⟨⟨rfl, .inr (.inl ⟨rfl, unhide HX⟩)⟩, by simp [intOf]⟩
      · have hb : (x == 0) = false := by simp [hx]
        have hb2 : (x != 0) = true := by simp [hx]
        have HE : Hid (r = x) := hide (by rw [← unhide Hr]; simp [or3, hx])
        clear hx
        go_wp2
        go_ret
        exact ⟨by rw [unhide HE]; rfl, rfl⟩
    · by_cases hx : y = 0
      · have HY : Hid (x = 0 ∧ y = 0) := hide ⟨unhide HX, hx⟩
        have hb : (y != 0) = false := by simp [hx]
        clear hx HX
        go_wp2
        exact ⟨⟨rfl, .inr (.inr (.inl ⟨rfl, unhide HY⟩))⟩, by simp [intOf]⟩
      · have hb : (y == 0) = false := by simp [hx]
        have hb2 : (y != 0) = true := by simp [hx]
        have HE : Hid (r = y) := hide (by rw [← unhide Hr]; simp [or3, hx, unhide HX])
        clear hx HX
        go_wp2
        go_ret
        exact ⟨by rw [unhide HE]; rfl, rfl⟩
    · by_cases hx : z = 0
      · have HY : Hid (x = 0 ∧ y = 0 ∧ z = 0) := hide ⟨(unhide HX).1, (unhide HX).2, hx⟩
        have hb : (z != 0) = false := by simp [hx]
        clear hx HX
        go_wp2
        exact ⟨⟨rfl, .inr (.inr (.inr ⟨rfl, unhide HY⟩))⟩, by simp [intOf]⟩
      · have hb : (z == 0) = false := by simp [hx]
        have hb2 : (z != 0) = true := by simp [hx]
        have HE : Hid (r = z) := hide (by rw [← unhide Hr]; simp [or3, (unhide HX).1, (unhide HX).2])
        clear hx HX
        go_wp2
        go_ret
        exact ⟨by rw [unhide HE]; rfl, rfl⟩
    · have HE : Hid (r = 0) := hide (by rw [← unhide Hr]; simp [or3, (unhide HX).1, (unhide HX).2.1, (unhide HX).2.2])
      clear HX
      go_wp2
      go_ret
      exact ⟨by rw [unhide HE]; rfl, rfl⟩

theorem ord_eq (a b : Tp) : or3 (cmpI a.time b.time) (cmpI a.dev b.dev) (cmpI a.ctr b.ctr) = ordI a b := rfl

set_option maxHeartbeats 1000000 in
theorem order_any (w : World) (a b : Tp) : Calls Tryz.prog 94 #[.agg (tpC a), .agg (tpC b)] w fun e w' => e = .returned (.int .i64 (ordI a b)) ∧ Fr (fun _ => False) w w' := by
  rw [← ord_eq]
  obtain ⟨d1, k1, t1, q1, p1, m1⟩ := a
  obtain ⟨d2, k2, t2, q2, p2, m2⟩ := b
  simp only [tpC]
  have R1 := hide (fun w => cmp_any w m1 m2)
  have R2 := hide (fun w => cmp_any w d1 d2)
  have R3 := hide (fun w => cmp_any w k1 k2)
  generalize cmpI m1 m2 = x at *
  generalize cmpI d1 d2 = y at *
  generalize cmpI k1 k2 = z at *
  have R4 : Hid (∀ w g, w.cell? ⟨g, 0, none⟩ = some (.int .i64 x) → w.cell? ⟨g, 1, none⟩ = some (.int .i64 y) → w.cell? ⟨g, 2, none⟩ = some (.int .i64 z) → Calls Tryz.prog 133 #[.slice (some ⟨g, 0, none⟩) 3 3] w fun e w' => e = .returned (.int .i64 (or3 x y z)) ∧ w' = w) := hide (fun w g => cmpor_any w g x y z)
  generalize or3 x y z = r at *
  go_enter Tryz.func94, Tryz.ntmps94
  go_upto_region 1 with (fail)
  obtain ⟨v, hv⟩ : ∃ v, v = (w.alloc (.cells #[.int .i64 d1, .int .i64 k1, .string t1, .int .i64 q1, .int .i64 p1, .int .i64 m1] 47)).alloc (.cells #[.int .i64 d2, .int .i64 k2, .string t2, .int .i64 q2, .int .i64 p2, .int .i64 m2] 47) := ⟨_, rfl⟩
  have b1 : v.cell? ⟨w.heap.size, 0, none⟩ = some (.int .i64 d1) := by rw [hv]; simp [go_sem]
  have b2 : v.cell? ⟨w.heap.size, 1, none⟩ = some (.int .i64 k1) := by rw [hv]; simp [go_sem]
  have b3 : v.cell? ⟨w.heap.size, 5, none⟩ = some (.int .i64 m1) := by rw [hv]; simp [go_sem]
  have b4 : v.cell? ⟨w.heap.size + 1, 0, none⟩ = some (.int .i64 d2) := by rw [hv]; simp [go_sem]
  have b5 : v.cell? ⟨w.heap.size + 1, 1, none⟩ = some (.int .i64 k2) := by rw [hv]; simp [go_sem]
  have b6 : v.cell? ⟨w.heap.size + 1, 5, none⟩ = some (.int .i64 m2) := by rw [hv]; simp [go_sem]
  have HV : Hid (Fr (fun _ => False) w v) := hide (by rw [hv]; exact ((Fr.refl _ w).alloc _).alloc _)
  rw [← hv]
  generalize w.heap.size + 1 = B at *
  generalize w.heap.size = A at *
  clear hv
  go_region_held3 (fun u => u.cell? ⟨A, 0, none⟩ = some (.int .i64 d1) ∧ u.cell? ⟨A, 1, none⟩ = some (.int .i64 k1) ∧ u.cell? ⟨A, 5, none⟩ = some (.int .i64 m1) ∧ u.cell? ⟨B, 0, none⟩ = some (.int .i64 d2) ∧ u.cell? ⟨B, 1, none⟩ = some (.int .i64 k2) ∧ u.cell? ⟨B, 5, none⟩ = some (.int .i64 m2)) (go_keep)
    (first | (go_at_call 133; refine (unhide R4 _ _ (by simp [go_sem]) (by simp [go_sem]) (by simp [go_sem])).mono ?_; rintro e w1 ⟨rfl, rfl⟩) | (go_at_call_of 134 (Value.int IntKind.i64 m1); refine (unhide R1 _).mono ?_; rintro e w1 ⟨rfl, rfl⟩) | (go_at_call_of 134 (Value.int IntKind.i64 d1); refine (unhide R2 _).mono ?_; rintro e w1 ⟨rfl, rfl⟩) | (go_at_call_of 134 (Value.int IntKind.i64 k1); refine (unhide R3 _).mono ?_; rintro e w1 ⟨rfl, rfl⟩))
  go_wp2
  go_ret
  exact ⟨rfl, by first | exact (unhide HV).drew.alloc _ | exact ((unhide HV).alloc _).drew | exact (unhide HV).alloc _⟩

end Go.Proofs.YtjgbllfppomcmaaGreat

/- Taps of a token: mayBe, follows, Right; a travel day's taps: dayLength. -/
namespace Go.Proofs.YtjgbllfppomcmaaGreat
open Go.RowKit

theorem stepW_isSome {a b : Option (List UInt8)} (ha : a.isSome = true) (hb : b.isSome = true) : (stepW a b).isSome = true := by
  cases a with
  | none => cases ha
  | some x =>
    cases b with
    | none => cases hb
    | some y => rfl

theorem wNumber_some (n : Int) (k : Nat) (h1 : 1 ≤ k) (h8 : k ≤ 8) (h0 : 0 ≤ n) (hn : n < 256 ^ k) : (wNumber n k).isSome = true := by
  unfold wNumber
  rw [if_pos ⟨by omega, by omega, h0, by rw [Int.toNat_natCast]; exact hn⟩]
  rfl

theorem tap_wr (t : Tp) (h : tapOk t = true) : (tapB t).isSome = true := by
  simp only [tapOk, Bool.and_eq_true, isIn_iff, isTok, beq_iff_eq] at h
  obtain ⟨⟨⟨⟨⟨h1, h2⟩, h3, h4⟩, ⟨h5, h6⟩, h7, h8⟩, h9⟩, h10, h11⟩ := h
  have hm := mostPlace_le t.kind
  unfold tapB tpC
  refine stepW_isSome (wNumber_some _ 2 (by omega) (by omega) (by omega) (by omega)) (stepW_isSome (wNumber_some _ 4 (by omega) (by omega) (by omega) (by omega)) (stepW_isSome ?_ (stepW_isSome (wNumber_some _ 1 (by omega) (by omega) (by omega) (by omega)) (stepW_isSome (wNumber_some _ 2 (by omega) (by omega) (by omega) (by omega)) (stepW_isSome (wNumber_some _ 4 (by omega) (by omega) (by omega) (by omega)) rfl)))))
  show (wFixed t.tok 8).isSome = true
  unfold wFixed
  rw [if_pos ⟨by omega, by omega, h9⟩]
  rfl

theorem tapW_code (t : Tp) : (tapW t).2 = if tapOk t then 0 else 80 := by
  unfold tapW
  cases h : tapOk t with
  | true => simp [codeOf, tap_wr t h]
  | false => rfl

theorem mayBe_any (w : World) (t : Tp) : Calls Tryz.prog 45 #[.agg (tpC t)] w fun e w' => e = .returned (.bool (tapOk t)) ∧ Fr (fun _ => False) w w' := by
  have R := hide (recTap_any t)
  rw [tapW_code] at R
  generalize (tapW t).1 = bs at *
  generalize tapOk t = ok at *
  obtain ⟨dev, ctr, tok, kind, place, time⟩ := t
  simp only [tpC] at R ⊢
  cases ok
  · simp only [Bool.false_eq_true, if_false] at R
    go_enter Tryz.func45, Tryz.ntmps45
    go_wp2_with fail
    refine (unhide R _).mono ?_
    rintro e w1 ⟨ao, cap, gb, rfl, _, _, hF⟩
    have HF : Hid (Fr (fun _ => False) w w1) := hide (((Fr.refl _ w).alloc _).trans hF (fun _ _ t => t))
    clear hF R
    go_wp2
    go_ret
    exact ⟨rfl, unhide HF⟩
  · simp only [if_true] at R
    go_enter Tryz.func45, Tryz.ntmps45
    go_wp2_with fail
    refine (unhide R _).mono ?_
    rintro e w1 ⟨ao, cap, gb, rfl, _, _, hF⟩
    have HF : Hid (Fr (fun _ => False) w w1) := hide (((Fr.refl _ w).alloc _).trans hF (fun _ _ t => t))
    clear hF R
    go_wp2
    go_ret
    exact ⟨rfl, unhide HF⟩

/-- May a tap stand behind another one? -/
def folB (t a : Tp) : Bool := (t.tok == a.tok) && decide (ordI a t < 0)

theorem follows_any (w : World) (t a : Tp) : Calls Tryz.prog 46 #[.agg (tpC t), .agg (tpC a)] w fun e w' => e = .returned (.bool (folB t a)) ∧ Fr (fun _ => False) w w' := by
  have R := hide (fun w => order_any w a t)
  have HB : Hid (folB t a = ((t.tok == a.tok) && decide (ordI a t < 0))) := hide rfl
  generalize ordI a t = r at *
  generalize folB t a = fb at *
  obtain ⟨d1, k1, t1, q1, p1, m1⟩ := t
  obtain ⟨d2, k2, t2, q2, p2, m2⟩ := a
  simp only [tpC] at R HB ⊢
  obtain ⟨eb, he⟩ : ∃ b, (t1 == t2) = b := ⟨_, rfl⟩
  have he2 : (t1.toList == t2.toList) = eb := by rw [← beq_toListBytes]; exact he
  rw [he] at HB
  cases eb
  · simp only [Bool.false_and] at HB
    go_enter Tryz.func46, Tryz.ntmps46
    go_wp2
    go_ret
    exact ⟨by rw [unhide HB]; rfl, ((Fr.refl _ w).alloc _).alloc _⟩
  · simp only [Bool.true_and] at HB
    go_enter Tryz.func46, Tryz.ntmps46
    go_wp2_with fail
    refine (unhide R _).mono ?_
    rintro e w1 ⟨rfl, hF⟩
    have HF : Hid (Fr (fun _ => False) w w1) := hide (Fr.trans (((Fr.refl _ w).alloc _).alloc _) hF (fun _ _ t => t))
    clear hF R
    go_wp2
    go_ret
    exact ⟨by rw [unhide HB]; rfl, unhide HF⟩

end Go.Proofs.YtjgbllfppomcmaaGreat

/- Taps in memory; a token's taps: Right. -/
namespace Go.Proofs.YtjgbllfppomcmaaGreat
open Go.RowKit

def tpL (t : Tp) : List Value := [.int .i64 t.dev, .int .i64 t.ctr, .string t.tok, .int .i64 t.kind, .int .i64 t.place, .int .i64 t.time]
def tpV (l : List Tp) : List Value := l.flatMap tpL
theorem tpV_length (l : List Tp) : (tpV l).length = l.length * 6 := flat_length tpL 6 (fun _ => rfl) l
theorem tpV_one (l : List Tp) : ∀ u ∈ tpV l, u.oneCell' = true := flat_one _ (fun x u hu => by simp only [tpL, List.mem_cons, List.not_mem_nil, or_false] at hu; rcases hu with rfl | rfl | rfl | rfl | rfl | rfl <;> rfl) l

/-- One tap's cells in a row of them. -/
def TpAt (w : World) (b o : Nat) (t : Tp) : Prop :=
  w.cell? ⟨b, o, none⟩ = some (.int .i64 t.dev) ∧ w.cell? ⟨b, o + 1, none⟩ = some (.int .i64 t.ctr) ∧ w.cell? ⟨b, o + 2, none⟩ = some (.string t.tok) ∧ w.cell? ⟨b, o + 3, none⟩ = some (.int .i64 t.kind) ∧ w.cell? ⟨b, o + 4, none⟩ = some (.int .i64 t.place) ∧ w.cell? ⟨b, o + 5, none⟩ = some (.int .i64 t.time)

theorem CAt.tp {w : World} {ao : Option Addr} {l : List Tp} (h : CAt w ao (tpV l)) {i : Nat} (hi : i < l.length) : ∃ b off, ao = some ⟨b, off, none⟩ ∧ TpAt w b (off + i * 6) l[i] := by
  obtain ⟨b, off, e, hc⟩ := cat_cell tpL 6 (fun _ => rfl) h hi (by omega)
  exact ⟨b, off, e, hc 0 (by omega), hc 1 (by omega), hc 2 (by omega), hc 3 (by omega), hc 4 (by omega), hc 5 (by omega)⟩

theorem TpAt.keep {w w' : World} {b o : Nat} {t : Tp} (h : TpAt w b o t) (hf : Fr (fun _ => False) w w') : TpAt w' b o t := by
  obtain ⟨h0, h1, h2, h3, h4, h5⟩ := h
  exact ⟨(hf.cell (World.block_lt_of_cell? _ _ h0) (fun t => t)).trans h0, (hf.cell (World.block_lt_of_cell? _ _ h1) (fun t => t)).trans h1, (hf.cell (World.block_lt_of_cell? _ _ h2) (fun t => t)).trans h2, (hf.cell (World.block_lt_of_cell? _ _ h3) (fun t => t)).trans h3, (hf.cell (World.block_lt_of_cell? _ _ h4) (fun t => t)).trans h4, (hf.cell (World.block_lt_of_cell? _ _ h5) (fun t => t)).trans h5⟩

/-- The first thing that is wrong with taps. -/
def rgt : Option Tp → List Tp → Int
  | _, [] => 0
  | none, x :: r => if tapOk x then rgt (some x) r else 80
  | some a, x :: r => if tapOk x then (if folB x a then rgt (some x) r else 170) else 80
def rightT (l : List Tp) : Int := if 2000 < l.length then 2 else rgt none l

def prevT (l : List Tp) (i : Nat) : Option Tp := if i = 0 then none else l[i - 1]?

theorem bx_tap {w : World} {b : Nat} {t : Tp} {T : TypeId} (h : Bx w b (tpC t) T) : TpAt w b 0 t := ⟨h.cell 0, h.cell 1, h.cell 2, h.cell 3, h.cell 4, h.cell 5⟩

set_option maxHeartbeats 2000000 in
theorem jright_any (w : World) (ao : Option Addr) (cap : Nat) (l : List Tp) (h : CAt w ao (tpV l)) (hl : l.length ≤ 4398046511104) :
    Calls Tryz.prog 20 #[.slice ao l.length cap] w fun e w' => e = .returned (.int .i64 (rightT l)) ∧ Fr (fun _ => False) w w' := by
  have H := hide h
  clear h
  by_cases hlong : 2000 < l.length
  · have HR : Hid (rightT l = 2) := hide (by simp [rightT, hlong])
    rw [unhide HR]
    clear HR
    go_enter Tryz.func20, Tryz.ntmps20
    go_wp2
    go_ret
    exact ⟨rfl, Fr.refl _ _⟩
  · have HR : Hid (rightT l = rgt none l) := hide (by simp [rightT, hlong])
    rw [unhide HR]
    obtain ⟨r, Hr⟩ : ∃ r, Hid (rgt none l = r) := ⟨_, rfl⟩
    rw [unhide Hr]
    clear HR
    go_enter Tryz.func20, Tryz.ntmps20
    go_wp2
    go_loopw [10] (fun iv wr => ∃ (i : Nat), i ≤ l.length ∧ iv = .int .i64 i ∧ Hid (Fr (fun _ => False) w wr ∧ rgt (prevT l i) (l.drop i) = r)) (fun iv _ => l.length - (intOf iv).toNat)
    case atStart => exact ⟨0, Nat.zero_le _, rfl, Fr.refl _ _, unhide Hr⟩
    case round =>
      obtain ⟨i, hi, rfl, HI⟩ := hrel
      by_cases hil : i < l.length
      · obtain ⟨b, off, rfl, c0, c1, c2, c3, c4, c5⟩ := ((unhide H).keep (unhide HI).1).tp hil
        have ht := (unhide HI).2
        rw [List.drop_eq_getElem_cons hil] at ht
        have HM := hide (fun w' => mayBe_any w' l[i])
        have HP : Hid (prevT l (i + 1) = some l[i]) := hide (by simp [prevT, hil])
        obtain ⟨x, hx⟩ : ∃ x, l[i] = x := ⟨_, rfl⟩
        simp only [hx] at HM HP ht c0 c1 c2 c3 c4 c5
        obtain ⟨d1, k1, t1, q1, p1, m1⟩ := x
        simp only [tpC] at HM c0 c1 c2 c3 c4 c5
        cases hok : tapOk ⟨d1, k1, t1, q1, p1, m1⟩ with
        | false =>
          have HE : Hid (r = 80) := hide (by rw [← ht]; cases hq : prevT l i <;> simp [rgt, hok])
          simp only [hok] at HM
          clear ht hok HP hx
          go_wp2_with fail
          refine (unhide HM _).mono ?_
          rintro e w1 ⟨rfl, hF⟩
          have HF : Hid (Fr (fun _ => False) w w1) := hide ((((unhide HI).1).alloc _).trans hF (fun _ _ t => t))
          clear hF HM
          go_wp2
          go_ret
          exact ⟨by rw [unhide HE]; rfl, unhide HF⟩
        | true =>
          simp only [hok] at HM
          have HIF := hide (unhide HI).1
          have HT := hide ht
          clear ht hx HI
          go_wp2_with fail
          refine (unhide HM _).mono ?_
          rintro e w1 ⟨rfl, hF⟩
          have hBx := (Bx.new wr (tpC ⟨d1, k1, t1, q1, p1, m1⟩) 47).keep hF
          have HF : Hid (Fr (fun _ => False) w w1) := hide (((unhide HIF).alloc _).trans hF (fun _ _ t => t))
          clear hF HM c0 c1 c2 c3 c4 c5
          obtain ⟨B, hB⟩ : ∃ B, wr.heap.size = B := ⟨_, rfl⟩
          rw [hB] at hBx ⊢
          obtain ⟨b0, b1, b2, b3, b4, b5⟩ := bx_tap hBx
          simp only [Nat.zero_add] at b0 b1 b2 b3 b4 b5
          clear hBx hB
          rcases Nat.eq_zero_or_pos i with h0 | h0
          · subst h0
            have HN : Hid (rgt (prevT l (0 + 1)) (l.drop (0 + 1)) = r) := hide (by
              rw [unhide HP, ← unhide HT]
              show _ = rgt none _
              simp [rgt, hok])
            clear HT HP hok
            go_wp2_with fail
            go_quiet (fail)
            go_wp2
            exact ⟨⟨0 + 1, by omega, by go_num, (unhide HF).drewN _, unhide HN⟩, by simp [intOf]; omega⟩
          · obtain ⟨k, rfl⟩ : ∃ k, i = k + 1 := ⟨i - 1, by omega⟩
            have hkl : k < l.length := by omega
            obtain ⟨b', off', hao, a0, a1, a2, a3, a4, a5⟩ := ((unhide H).keep (unhide HF)).tp hkl
            injection hao with hao
            injection hao with hb' ho'
            subst hb' ho'
            have HP2 : prevT l (k + 1) = some l[k] := by simp [prevT, hkl]
            have HM := hide (fun w' => follows_any w' ⟨d1, k1, t1, q1, p1, m1⟩ l[k])
            have HT2 := unhide HT
            rw [HP2] at HT2
            clear HT HP2
            obtain ⟨y, hy⟩ : ∃ y, l[k] = y := ⟨_, rfl⟩
            simp only [hy] at HM HT2 a0 a1 a2 a3 a4 a5
            clear hy
            have HS : Hid (rgt (some y) (⟨d1, k1, t1, q1, p1, m1⟩ :: l.drop (k + 1 + 1)) = if folB ⟨d1, k1, t1, q1, p1, m1⟩ y then rgt (some ⟨d1, k1, t1, q1, p1, m1⟩) (l.drop (k + 1 + 1)) else 170) := hide (by simp [rgt, hok])
            obtain ⟨d2, k2, t2, q2, p2, m2⟩ := y
            simp only [tpC] at HM a0 a1 a2 a3 a4 a5
            generalize folB ⟨d1, k1, t1, q1, p1, m1⟩ ⟨d2, k2, t2, q2, p2, m2⟩ = fb at *
            have HT3 : Hid ((if fb then rgt (some ⟨d1, k1, t1, q1, p1, m1⟩) (l.drop (k + 1 + 1)) else 170) = r) := hide (by rw [← unhide HS]; exact HT2)
            have HKI : Hid (k + 1 < l.length) := hide hil
            clear HT2 HS hok h0
            obtain ⟨Z, hZ⟩ : ∃ Z : Int, ((k + 1 : Nat) : Int) = Z := ⟨_, rfl⟩
            have hw1 : IntKind.i64.wrap (Z - 1) = (k : Int) := by rw [← hZ, IntKind.wrap_i64]; omega
            have hx0 : (0 : Int) ≤ (k : Int) := by omega
            have hx1 : (k : Int) < (l.length : Int) := by omega
            have hx2 : decide ((0 : Int) ≤ (k : Int)) = true := by simp
            have hx3 : decide ((k : Int) < (l.length : Int)) = true := by simp; omega
            have hx4 : ((k : Int)).toNat = k := by simp
            have hg : decide ((0 : Int) < Z) = true := by rw [← hZ]; simp
            rw [hZ]
            have HZ := hide hZ
            clear hZ hi hil
            have HKP : Hid (∀ u, Fr (fun _ => False) w1 u → u.cell? ⟨B, 0, none⟩ = some (.int .i64 d1) ∧ u.cell? ⟨B, 1, none⟩ = some (.int .i64 k1) ∧ u.cell? ⟨B, 2, none⟩ = some (.string t1) ∧ u.cell? ⟨B, 3, none⟩ = some (.int .i64 q1) ∧ u.cell? ⟨B, 4, none⟩ = some (.int .i64 p1) ∧ u.cell? ⟨B, 5, none⟩ = some (.int .i64 m1) ∧ u.cell? ⟨b, off + k * 6, none⟩ = some (.int .i64 d2) ∧ u.cell? ⟨b, off + k * 6 + 1, none⟩ = some (.int .i64 k2) ∧ u.cell? ⟨b, off + k * 6 + 2, none⟩ = some (.string t2) ∧ u.cell? ⟨b, off + k * 6 + 3, none⟩ = some (.int .i64 q2) ∧ u.cell? ⟨b, off + k * 6 + 4, none⟩ = some (.int .i64 p2) ∧ u.cell? ⟨b, off + k * 6 + 5, none⟩ = some (.int .i64 m2)) := hide (fun u hf => by
              have f : ∀ {a : Addr} {v : Value}, w1.cell? a = some v → u.cell? a = some v := fun {a v} e => (hf.cell (World.block_lt_of_cell? _ _ e) (fun t => t)).trans e
              exact ⟨f b0, f b1, f b2, f b3, f b4, f b5, f a0, f a1, f a2, f a3, f a4, f a5⟩)
            cases fb with
            | false =>
              have HE : Hid (r = 170) := hide (by have := unhide HT3; simpa using this.symm)
              go_wp2_with fail
              go_region_held3 (fun u => u.cell? ⟨B, 0, none⟩ = some (.int .i64 d1) ∧ u.cell? ⟨B, 1, none⟩ = some (.int .i64 k1) ∧ u.cell? ⟨B, 2, none⟩ = some (.string t1) ∧ u.cell? ⟨B, 3, none⟩ = some (.int .i64 q1) ∧ u.cell? ⟨B, 4, none⟩ = some (.int .i64 p1) ∧ u.cell? ⟨B, 5, none⟩ = some (.int .i64 m1) ∧ u.cell? ⟨b, off + k * 6, none⟩ = some (.int .i64 d2) ∧ u.cell? ⟨b, off + k * 6 + 1, none⟩ = some (.int .i64 k2) ∧ u.cell? ⟨b, off + k * 6 + 2, none⟩ = some (.string t2) ∧ u.cell? ⟨b, off + k * 6 + 3, none⟩ = some (.int .i64 q2) ∧ u.cell? ⟨b, off + k * 6 + 4, none⟩ = some (.int .i64 p2) ∧ u.cell? ⟨b, off + k * 6 + 5, none⟩ = some (.int .i64 m2)) (first | go_keep | exact unhide HKP _ (unhide HF2))
                (first | (go_at_call 46; refine (unhide HM _).mono ?_; rintro e w2 ⟨rfl, hF2⟩; have HF2 := hide (Fr.trans ((Fr.refl (fun _ => False) w1).drew) hF2 (fun _ _ t => t)); clear hF2))
              have HF3 : Hid (Fr (fun _ => False) w w2) := hide ((unhide HF).trans (unhide HF2) (fun _ _ t => t))
              clear HF2 HF HKP HM
              obtain rfl := unhide HZ
              clear HZ hw1 hg
              go_wp2
              go_ret
              exact ⟨by rw [unhide HE]; rfl, unhide HF3⟩
            | true =>
              have HN : Hid (rgt (prevT l (k + 1 + 1)) (l.drop (k + 1 + 1)) = r) := hide (by rw [unhide HP]; simpa using unhide HT3)
              go_wp2_with fail
              go_region_held3 (fun u => u.cell? ⟨B, 0, none⟩ = some (.int .i64 d1) ∧ u.cell? ⟨B, 1, none⟩ = some (.int .i64 k1) ∧ u.cell? ⟨B, 2, none⟩ = some (.string t1) ∧ u.cell? ⟨B, 3, none⟩ = some (.int .i64 q1) ∧ u.cell? ⟨B, 4, none⟩ = some (.int .i64 p1) ∧ u.cell? ⟨B, 5, none⟩ = some (.int .i64 m1) ∧ u.cell? ⟨b, off + k * 6, none⟩ = some (.int .i64 d2) ∧ u.cell? ⟨b, off + k * 6 + 1, none⟩ = some (.int .i64 k2) ∧ u.cell? ⟨b, off + k * 6 + 2, none⟩ = some (.string t2) ∧ u.cell? ⟨b, off + k * 6 + 3, none⟩ = some (.int .i64 q2) ∧ u.cell? ⟨b, off + k * 6 + 4, none⟩ = some (.int .i64 p2) ∧ u.cell? ⟨b, off + k * 6 + 5, none⟩ = some (.int .i64 m2)) (first | go_keep | exact unhide HKP _ (unhide HF2))
                (first | (go_at_call 46; refine (unhide HM _).mono ?_; rintro e w2 ⟨rfl, hF2⟩; have HF2 := hide (Fr.trans ((Fr.refl (fun _ => False) w1).drew) hF2 (fun _ _ t => t)); clear hF2))
              have HF3 : Hid (Fr (fun _ => False) w w2) := hide ((unhide HF).trans (unhide HF2) (fun _ _ t => t))
              clear HF2 HF HKP HM
              obtain rfl := unhide HZ
              clear HZ hw1 hg
              go_wp2
              exact ⟨⟨k + 1 + 1, unhide HKI, by go_num, unhide HF3, unhide HN⟩, by have := unhide HKI; simp [intOf]; omega⟩
      · obtain rfl : i = l.length := by omega
        have ht := (unhide HI).2
        rw [List.drop_length] at ht
        have HN : Hid (r = 0) := hide (by rw [← ht]; cases prevT l l.length <;> rfl)
        have HF := hide (unhide HI).1
        clear ht HI H
        go_wp2
        go_ret
        exact ⟨by rw [unhide HN]; rfl, unhide HF⟩

end Go.Proofs.YtjgbllfppomcmaaGreat

/- A travel day's taps: dayLength. -/
namespace Go.Proofs.YtjgbllfppomcmaaGreat
open Go.RowKit

/-- The first minute behind a tap's travel day. -/
def dEnd (t : Tp) : Int := toV (dayV t.time)
def isLate (c : Int) (t : Tp) : Bool := decide (c ≤ t.time)
/-- How many taps are of the first one's travel day. -/
def dayLn : List Tp → Nat
  | [] => 0
  | x :: r => ((x :: r).takeWhile (fun t => !isLate (dEnd x) t)).length

theorem ixF_while {α : Type} (p : α → Bool) : ∀ (l : List α) (i : Nat), (ixF p l i = -1 ∧ (l.takeWhile (fun t => !p t)).length = l.length) ∨ (ixF p l i = (i : Int) + ((l.takeWhile (fun t => !p t)).length : Nat) ∧ (l.takeWhile (fun t => !p t)).length < l.length)
  | [], _ => .inl ⟨rfl, rfl⟩
  | b :: r, i => by
    rw [ixF_cons]
    cases h : p b with
    | true => exact .inr ⟨by simp [h], by simp [h]⟩
    | false =>
      rcases ixF_while p r (i + 1) with ⟨e1, e2⟩ | ⟨e1, e2⟩
      · exact .inl ⟨by simpa using e1, by simp [h, e2]⟩
      · refine .inr ⟨?_, by simp [h]; omega⟩
        simp only [Bool.false_eq_true, if_false, e1, List.takeWhile_cons, h, Bool.not_false, if_true, List.length_cons]
        omega

theorem late_any (w : World) (t : Tp) (c : Int) (k : Nat) (d0 : w.cell? ⟨k, 0, none⟩ = some (.int .i64 c)) :
    Calls Tryz.prog 107 #[.agg (tpC t), .pointer (some ⟨k, 0, none⟩)] w fun e w' => e = .returned (.bool (isLate c t)) ∧ Fr (fun _ => False) w w' := by
  obtain ⟨dev, ctr, tok, kind, place, time⟩ := t
  simp only [tpC]
  have hk := World.block_lt_of_cell? _ _ d0
  have d1 : (w.alloc (.cells #[.int .i64 dev, .int .i64 ctr, .string tok, .int .i64 kind, .int .i64 place, .int .i64 time] 47)).cell? ⟨k, 0, none⟩ = some (.int .i64 c) := (((Fr.refl (fun _ => False) w).alloc _).cell hk (fun t => t)).trans d0
  go_enter Tryz.func107, Tryz.ntmps107
  go_wp2
  go_ret
  exact ⟨rfl, (Fr.refl _ w).alloc _⟩

theorem indexTp_any (w : World) (c : Int) (k : Nat) (d0 : w.cell? ⟨k, 0, none⟩ = some (.int .i64 c)) (ao : Option Addr) (cap : Nat) (l : List Tp) (h : CAt w ao (tpV l)) (hl : l.length ≤ 4398046511104) :
    Calls Tryz.prog 106 #[.slice ao l.length cap, .func (.func 107) #[] #[.pointer (some ⟨k, 0, none⟩)]] w fun e w' => e = .returned (.int .i64 (ixF (isLate c) l 0)) ∧ Fr (fun _ => False) w w' := by
  have HC := hide (fun (w' : World) (hf : Fr (fun _ => False) w w') (s : Tp) => (late_any w' s c k ((hf.cell (a := ⟨k, 0, none⟩) (World.block_lt_of_cell? _ _ d0) (fun t => t)).trans d0) : Calls Tryz.prog 107 #[.agg (tpC s), .pointer (some ⟨k, 0, none⟩)] w' fun e w'' => e = .returned (.bool ((isLate c) s)) ∧ Fr (fun _ => False) w' w''))
  have H := hide h
  generalize hp : (isLate c) = p at *
  have HC' : Hid (∀ (w' : World) (hf : Fr (fun _ => False) w w') (s : Tp), Calls Tryz.prog 107 #[.agg (tpC s), .pointer (some ⟨k, 0, none⟩)] w' fun e w'' => e = .returned (.bool (p s)) ∧ Fr (fun _ => False) w' w'') := hide (fun w' hf s => unhide HC w' hf s)
  clear h d0 hp HC
  go_enter Tryz.func106, Tryz.ntmps106
  go_wp2
  go_loopw [5, 8] (fun _ iv wr => ∃ (i : Nat), i ≤ l.length ∧ iv = .int .i64 i ∧ Hid (Fr (fun _ => False) w wr ∧ ixF p (l.drop i) i = ixF p l 0)) (fun _ iv _ => l.length - (intOf iv).toNat)
  case atStart => exact ⟨0, Nat.zero_le _, rfl, Fr.refl _ _, by simp⟩
  case round =>
    obtain ⟨i, hi, rfl, HI⟩ := hrel
    by_cases hil : i < l.length
    · obtain ⟨b, off, rfl, c0, c1, c2, c3, c4, c5⟩ := ((unhide H).keep (unhide HI).1).tp hil
      have ht := (unhide HI).2
      rw [List.drop_eq_getElem_cons hil, ixF_cons] at ht
      have R := unhide HC' wr (unhide HI).1 l[i]
      generalize l[i] = x at *
      have HT := hide ht
      clear ht
      simp only [tpC] at R
      cases hx : p x with
      | true =>
        rw [hx] at R HT
        clear hx
        have HT' : Hid (ixF p l 0 = (i : Int)) := hide (by have := unhide HT; simpa using this.symm)
        clear HT
        go_wp2_with fail
        refine R.mono ?_
        rintro e w1 ⟨rfl, hF⟩
        have HF := hide ((unhide HI).1.trans hF (fun _ _ t => t))
        clear hF R
        go_wp2
        go_ret
        exact ⟨by rw [unhide HT']; rfl, unhide HF⟩
      | false =>
        rw [hx] at R HT
        clear hx
        have HT' : Hid (ixF p (l.drop (i + 1)) (i + 1) = ixF p l 0) := hide (by have := unhide HT; simpa using this)
        clear HT
        go_wp2_with fail
        refine R.mono ?_
        rintro e w1 ⟨rfl, hF⟩
        have HF := hide ((unhide HI).1.trans hF (fun _ _ t => t))
        clear hF R
        go_wp2
        exact ⟨⟨i + 1, by omega, by go_num, unhide HF, unhide HT'⟩, by simp [intOf]; omega⟩
    · obtain rfl : i = l.length := by omega
      have ht := (unhide HI).2
      rw [List.drop_length] at ht
      have HN := hide ht
      have HF := hide (unhide HI).1
      clear ht HI H
      go_wp2
      go_ret
      exact ⟨by rw [← unhide HN]; rfl, unhide HF⟩

theorem dayLn_eq (l : List Tp) (h : 0 < l.length) : dayLn l = (l.takeWhile (fun t => !isLate (dEnd l[0]) t)).length := by
  cases l with
  | nil => simp at h
  | cons x r => rfl

theorem dayLn_le (l : List Tp) : dayLn l ≤ l.length := by
  cases l with
  | nil => exact Nat.le_refl _
  | cons x r => exact (List.takeWhile_sublist _).length_le

theorem dayLength_any (w : World) (ao : Option Addr) (cap : Nat) (l : List Tp) (h : CAt w ao (tpV l)) (hl : l.length ≤ 4398046511104) (h0 : 0 < l.length) :
    Calls Tryz.prog 58 #[.slice ao l.length cap] w fun e w' => e = .returned (.int .i64 (dayLn l)) ∧ Fr (fun _ => False) w w' := by
  obtain ⟨b, off, rfl, c0, c1, c2, c3, c4, c5⟩ := h.tp h0
  simp only [Nat.zero_mul, Nat.add_zero] at c0 c1 c2 c3 c4 c5
  have R1 := hide (cday_any w l[0].time)
  have HD := hide (dayLn_eq l h0)
  have hde : dEnd l[0] = toV (dayV l[0].time) := rfl
  rw [hde] at HD
  generalize l[0].time = tm at *
  generalize dayE tm = de at *
  generalize dayV tm = dv at *
  have R2 := hide (bounds_any w dv)
  generalize fromV dv = fv at *
  generalize toV dv = tv at *
  have R3 := hide (fun (w' : World) (hf : Fr (fun _ => False) w w') (k : Nat) (d : w'.cell? ⟨k, 0, none⟩ = some (.int .i64 tv)) => indexTp_any w' tv k d (some ⟨b, off, none⟩) cap l (h.keep hf) hl)
  have HX := hide (ixF_while (isLate tv) l 0)
  generalize ixF (isLate tv) l 0 = r at *
  generalize hT : (l.takeWhile (fun t => !isLate tv t)).length = n at *
  have HLE := hide (dayLn_le l)
  generalize dayLn l = z at *
  clear hT hde h c0 c1 c2 c3 c4
  go_enter Tryz.func58, Tryz.ntmps58
  go_wp2_with fail
  refine (unhide R1).mono ?_
  rintro e w1 ⟨rfl, rfl⟩
  go_wp2_with fail
  refine (unhide R2).mono ?_
  rintro e w2 ⟨rfl, rfl⟩
  go_wp2_with fail
  refine (unhide R3 _ ((Fr.refl _ _).alloc _) w2.heap.size (by simp [go_sem])).mono ?_
  rintro e w3 ⟨rfl, hF⟩
  have HF : Hid (Fr (fun _ => False) w2 w3) := hide (((Fr.refl _ _).alloc _).trans hF (fun _ _ t => t))
  clear hF R1 R2 R3
  rcases unhide HX with ⟨e1, e2⟩ | ⟨e1, e2⟩
  · subst e1
    have HZ : Hid (z = l.length) := hide (by rw [unhide HD]; exact e2)
    clear e2 HX HD HLE
    go_wp2
    go_ret
    exact ⟨by rw [unhide HZ]; rfl, unhide HF⟩
  · have HZ : Hid (z = n) := hide (unhide HD)
    have e3 : r = (n : Int) := by omega
    subst e3
    clear e2 HX HD HLE e1
    go_wp2
    go_ret
    exact ⟨by rw [unhide HZ]; rfl, unhide HF⟩

end Go.Proofs.YtjgbllfppomcmaaGreat

