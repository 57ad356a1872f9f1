import Derived.Test.YtmgejkenpfihmaaGreatJN1
import Derived.Test.YtmgejkenpfihmaaGreatJK0
import Derived.Test.YtmgejkenpfihmaaGreatQST
/- Taps of a token: mayBe, follows, Right; a travel day's taps: dayLength. -/
namespace Go.Proofs.YtmgejkenpfihmaaGreat
open Go.RowKit

theorem stepW_isSome {a b : Option (List UInt8)} (ha : a.isSome = true) (hb : b.isSome = true) : (stepW a b).isSome = true := by
  cases a with
  | none => cases ha
  | some x =>
    cases b with
    | none => cases hb
    | some y => rfl

theorem wNumber_some (n : Int) (k : Nat) (h1 : 1 ≤ k) (h8 : k ≤ 8) (h0 : 0 ≤ n) (hn : n < 256 ^ k) : (wNumber n k).isSome = true := by
  unfold wNumber
  rw [if_pos ⟨by omega, by omega, h0, by rw [Int.toNat_natCast]; exact hn⟩]
  rfl

theorem tap_wr (t : Tp) (h : tapOk t = true) : (tapB t).isSome = true := by
  simp only [tapOk, Bool.and_eq_true, isIn_iff, isTok, beq_iff_eq] at h
  obtain ⟨⟨⟨⟨⟨h1, h2⟩, h3, h4⟩, ⟨h5, h6⟩, h7, h8⟩, h9⟩, h10, h11⟩ := h
  have hm := mostPlace_le t.kind
  unfold tapB tpC
  refine stepW_isSome (wNumber_some _ 2 (by omega) (by omega) (by omega) (by omega)) (stepW_isSome (wNumber_some _ 4 (by omega) (by omega) (by omega) (by omega)) (stepW_isSome ?_ (stepW_isSome (wNumber_some _ 1 (by omega) (by omega) (by omega) (by omega)) (stepW_isSome (wNumber_some _ 2 (by omega) (by omega) (by omega) (by omega)) (stepW_isSome (wNumber_some _ 4 (by omega) (by omega) (by omega) (by omega)) rfl)))))
  show (wFixed t.tok 8).isSome = true
  unfold wFixed
  rw [if_pos ⟨by omega, by omega, h9⟩]
  rfl

theorem tapW_code (t : Tp) : (tapW t).2 = if tapOk t then 0 else 80 := by
  unfold tapW
  cases h : tapOk t with
  | true => simp [codeOf, tap_wr t h]
  | false => rfl

theorem mayBe_any (w : World) (t : Tp) : Calls Tryz.prog 22 #[.agg (tpC t)] w fun e w' => e = .returned (.bool (tapOk t)) ∧ Fr (fun _ => False) w w' := by
  have R := hide (recTap_any t)
  rw [tapW_code] at R
  generalize (tapW t).1 = bs at *
  generalize tapOk t = ok at *
  obtain ⟨dev, ctr, tok, kind, place, time⟩ := t
  simp only [tpC] at R ⊢
  cases ok
  · simp only [Bool.false_eq_true, if_false] at R
    go_enter Tryz.func22, Tryz.ntmps22
    go_wp2_with fail
    refine (unhide R _).mono ?_
    rintro e w1 ⟨ao, cap, gb, rfl, _, _, hF⟩
    have HF : Hid (Fr (fun _ => False) w w1) := hide (((Fr.refl _ w).alloc _).trans hF (fun _ _ t => t))
    clear hF R
    go_wp2
    go_ret
    exact ⟨rfl, unhide HF⟩
  · simp only [if_true] at R
    go_enter Tryz.func22, Tryz.ntmps22
    go_wp2_with fail
    refine (unhide R _).mono ?_
    rintro e w1 ⟨ao, cap, gb, rfl, _, _, hF⟩
    have HF : Hid (Fr (fun _ => False) w w1) := hide (((Fr.refl _ w).alloc _).trans hF (fun _ _ t => t))
    clear hF R
    go_wp2
    go_ret
    exact ⟨rfl, unhide HF⟩

/-- May a tap stand behind another one? -/
def folB (t a : Tp) : Bool := (t.tok == a.tok) && decide (ordI a t < 0)

theorem follows_any (w : World) (t a : Tp) : Calls Tryz.prog 23 #[.agg (tpC t), .agg (tpC a)] w fun e w' => e = .returned (.bool (folB t a)) ∧ Fr (fun _ => False) w w' := by
  have R := hide (fun w => order_any w a t)
  have HB : Hid (folB t a = ((t.tok == a.tok) && decide (ordI a t < 0))) := hide rfl
  generalize ordI a t = r at *
  generalize folB t a = fb at *
  obtain ⟨d1, k1, t1, q1, p1, m1⟩ := t
  obtain ⟨d2, k2, t2, q2, p2, m2⟩ := a
  simp only [tpC] at R HB ⊢
  obtain ⟨eb, he⟩ : ∃ b, (t1 == t2) = b := ⟨_, rfl⟩
  have he2 : (t1.toList == t2.toList) = eb := by rw [← beq_toListBytes]; exact he
  rw [he] at HB
  cases eb
  · simp only [Bool.false_and] at HB
    go_enter Tryz.func23, Tryz.ntmps23
    go_wp2
    go_ret
    exact ⟨by rw [unhide HB]; rfl, ((Fr.refl _ w).alloc _).alloc _⟩
  · simp only [Bool.true_and] at HB
    go_enter Tryz.func23, Tryz.ntmps23
    go_wp2_with fail
    refine (unhide R _).mono ?_
    rintro e w1 ⟨rfl, hF⟩
    have HF : Hid (Fr (fun _ => False) w w1) := hide (Fr.trans (((Fr.refl _ w).alloc _).alloc _) hF (fun _ _ t => t))
    clear hF R
    go_wp2
    go_ret
    exact ⟨by rw [unhide HB]; rfl, unhide HF⟩

end Go.Proofs.YtmgejkenpfihmaaGreat

