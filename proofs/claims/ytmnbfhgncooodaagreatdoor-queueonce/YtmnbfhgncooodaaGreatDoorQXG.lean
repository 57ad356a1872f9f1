import Derived.Test.YtmnbfhgncooodaaGreatDoorQXF
import Derived.Test.YtmnbfhgncooodaaGreatDoorYWT
import Derived.Lib.SlBytesConst
/- Fresh, and the document's examples of layer 10. -/
namespace Go.Proofs.YtmnbfhgncooodaaGreatDoor
open Go.RowKit

theorem hlf_fresh (lim more : Nat) : hlf (2 + 2 * qH lim + more) = (2 * qH lim + more) / 2 := by unfold hlf; congr 1; omega

theorem lim_fresh (lim more : Nat) (h1 : 1 ≤ lim) (h2 : lim ≤ 16) (h3 : more ≤ 7) : Lim lim (2 + 2 * qH lim + more) ∧ qH lim ≤ 12 ∧ hlf (2 + 2 * qH lim + more) ≤ 15 := by
  have hq : qH lim ≤ 12 := by unfold qH; omega
  refine ⟨⟨h1, by omega, by omega, by omega⟩, hq, ?_⟩
  rw [hlf_fresh]; omega

set_option maxHeartbeats 400000 in
set_option maxRecDepth 20000 in
theorem fresh_any (w : World) (hT : TabAt w) (lim more : Nat) (h1 : 1 ≤ lim) (h2 : lim ≤ 16) (h3 : more ≤ 7) :
    Calls Tryz.prog 19 #[.int .i64 (lim : Int), .int .i64 (more : Int)] w fun e w' => ∃ hp qb, e = .returned (.tuple #[.pointer (some ⟨hp, 0, none⟩), .pointer (some ⟨qb, 0, none⟩)]) ∧ Hid (∃ b, QW w w' hp b qb (2 + 2 * qH lim + more) lim ⟨0, []⟩ false 3000 16 1 (fun _ _ => True)) := by
  obtain ⟨hl, hq12, hh⟩ := lim_fresh lim more h1 h2 h3
  have QS := qsec_any w (lim : Int)
  have hmay : mayQ (lim : Int) = true := by simp [mayQ]; omega
  rw [qsecF, hmay, if_pos rfl, Int.toNat_natCast] at QS
  obtain ⟨n, hn⟩ : ∃ n, n = 2 + 2 * qH lim + more := ⟨_, rfl⟩
  rw [← hn] at hl hh ⊢
  have NB := new_dn w (fun _ => 0) ⟨hT, rfl⟩ (fun _ _ => rfl) n (by omega)
  have hnI : (2 : Int) + 2 * (qH lim : Int) + (more : Int) = (n : Int) := by omega
  obtain ⟨sc, hsc⟩ : ∃ x : Int, x = 2 + 2 * (qH lim : Int) := ⟨_, rfl⟩
  rw [← hsc] at QS hnI
  have hwr : IntKind.i64.wrap (sc + (more : Int)) = (n : Int) := by rw [hnI, IntKind.wrap_i64]; omega
  have H1 : Hid (Calls Tryz.prog 10 #[.int .i64 (n : Int)] w fun e w' => ∃ hp, e = .returned (.pointer (some ⟨hp, 0, none⟩)) ∧ Hid (∃ R b, Dn w' R hp b n (Dk.new n) ∧ UpR w (fun _ => 0) R ∧ Fr (fun _ => False) w w')) := by
    refine hide (NB.mono ?_)
    rintro e w' ⟨R', p, b, rfl, k1, k2, k3⟩
    exact ⟨p, rfl, hide ⟨R', b, k1, k2, k3⟩⟩
  have HQ := hide QS
  have HH := hide (And.intro hl hh)
  have hnb : (n : Int) ≤ 1048576 := by have := hl.max; omega
  have hn0 : (0 : Int) ≤ (n : Int) := by omega
  have hw64 : wrap64 (n : Int) = (n : Int) := by unfold wrap64; omega
  clear NB QS hmay hn hsc h1 h2 h3 hl hh hT hq12
  go_enter Tryz.func19, Tryz.ntmps19
  go_wp2_with fail
  refine (unhide HQ).mono ?_
  rintro e w1 ⟨rfl, rfl⟩
  go_wp2_with fail
  refine (unhide H1).mono ?_
  rintro e w2 ⟨hp, rfl, HD⟩
  have H2 : Hid (Calls Tryz.prog 13 #[.pointer (some ⟨hp, 0, none⟩)] w2 fun e w' => ∃ p, e = .returned (.pointer (some ⟨p, 0, none⟩)) ∧ Hid (∃ R b, Dn w' R hp b n (Dk.new n) ∧ UpR w1 (fun _ => 0) R ∧ Fr (fun _ => False) w1 w' ∧ Dsk w' R p b n)) := by
    obtain ⟨R, b, D, u, f⟩ := unhide HD
    refine hide (D.disk.mono ?_)
    rintro e w' ⟨R', p, he, k1, k2, k3, k4⟩
    exact ⟨p, he, hide ⟨R', b, k2, u.trans k3 f.size, f.trans k4 (fun _ _ t => t), k1⟩⟩
  clear H1 HQ hwr
  go_wp2_with fail
  refine (unhide H2).mono ?_
  rintro e w3 ⟨p, rfl, HE⟩
  have H3 : Hid (Calls Tryz.prog 30 #[.pointer (some ⟨p, 0, none⟩), .int .i64 (lim : Int)] w3 fun e w' => ∃ qb, e = .returned (.tuple #[.pointer (some ⟨qb, 0, none⟩), .nilIface]) ∧ Hid (∃ b, QW w1 w' hp b qb n lim ⟨0, []⟩ false 3000 16 1 (fun _ _ => True))) := by
    obtain ⟨R, b, D, u, f, hk⟩ := unhide HE
    obtain ⟨hl, hh⟩ := unhide HH
    have hpot : (Dk.new n).pot = 0 := rfl
    have hz : hold (Dk.new n).look = (0, 1, 1) := hold_new0 _ rfl rfl
    have HOP := wopen_first (OK := fun l => qOf l = some ⟨0, []⟩) D hk rfl rfl hl.four hl.max (by omega) hz qOf_nil
    have HQO := qopen_of (OK := fun l => qOf l = some ⟨0, []⟩) hk hl (fun l hl => ⟨⟨0, []⟩, hl, ⟨by simp [Qr.last], by simp, fun b hb => by cases hb⟩⟩) D.tab.1.pos HOP
    refine hide (HQO.mono ?_)
    rintro e w' ⟨fail, d', R', u1, f1, D1, st, fnd, ar, e1, e2⟩
    obtain ⟨qb', l, G', h', a', rs', q2, O, he, hG, L, hok, hO⟩ := e2 (ar rfl)
    have hst := st.armed
    have hpt := st.pot
    have hq2 : q2 = ⟨0, []⟩ := by
      have := L.told
      rw [hok] at this
      injection this with this
      exact this.symm
    subst hq2
    exact ⟨qb', he, hide ⟨b, R', O, p, l, d', G', h', a', rs', rs'.length, 1, hst, by omega, by omega, Nat.le_refl _, L, fun h => absurd h (by decide), f.trans f1 (fun k hk t => t (by rw [u k hk])), fun k hk => ⟨by rw [u1 k (Nat.lt_of_lt_of_le hk f.size), u k hk], fun t => by have := hO k t; have := f.size; omega⟩, trivial⟩⟩
  clear H2 HD
  go_wp2_with fail
  refine (unhide H3).mono ?_
  rintro e w4 ⟨qb, rfl, HW⟩
  clear H3 HE
  go_wp2
  go_ret2
  exact ⟨hp, qb, rfl, HW⟩

end Go.Proofs.YtmnbfhgncooodaaGreatDoor

/- The document's examples of layer 10. -/
namespace Go.Proofs.YtmnbfhgncooodaaGreatDoor
open Go.RowKit

/-- One byte, as a constant's row. -/
theorem bat_mark (w : World) (x : UInt8) : BAt (w.alloc (.cells #[.int .u8 (x.toNat : Int)] 5 (1, 2))) (some ⟨w.heap.size, 0, none⟩) 1 [x] := by
  have h := Row.mark w #[.int .u8 (x.toNat : Int)] 5 [x] 1 rfl (by decide) (by simp) (fun j hj => by
    have hj' : j < 1 := hj
    have e : j = 0 := by omega
    subst e
    rfl)
  exact (h.bat (by simp)).2

theorem ErrT.later {w w' : World} (h : ErrT w) (hF : Fr (fun _ => False) w w') : ErrT w' := (hF.cell (World.block_lt_of_cell? _ _ h) (fun t => t)).trans h

theorem QW.up {w0 w : World} {hp b qb n lim : Nat} {q : Qr} {sf : Bool} {B C N B' C' N' : Nat} {Sd : World → (Nat → Prop) → Prop} (h : QW w0 w hp b qb n lim q sf B C N Sd) (hB : B ≤ B') (hC : C ≤ C') (hN : N ≤ N') : QW w0 w hp b qb n lim q sf B' C' N' Sd := h.mono hB hC hN

set_option maxHeartbeats 2000000 in
set_option maxRecDepth 20000 in
theorem awake10_any (w : World) (hT : TabAt w) (hE : ErrT w) : Calls Tryz.prog 16 #[] w fun e w' => e = .returned (.bool true) ∧ Fr (fun _ => False) w w' := by
  have HFR := hide (fresh_any w hT 2 0 (by omega) (by omega) (by omega))
  obtain ⟨N, hN⟩ : ∃ N, N = 2 + 2 * qH 2 + 0 := ⟨_, rfl⟩
  have hL : Lim 2 N ∧ hlf N ≤ 15 := by rw [hN]; have h := lim_fresh 2 0 (by omega) (by omega) (by omega); exact ⟨h.1, h.2.2⟩
  rw [← hN] at HFR
  have HL := hide (And.intro hL.1 (And.intro hL.2 hE))
  clear hN hL hT hE
  have QS := fun u => hide (qsec_any u 1)
  have hq1 : qsecF 1 = 8 := by decide +kernel
  rw [hq1] at QS
  clear hq1
  have hcs := fun (w : World) (C : Array Value) (n c : Nat) => Go.Lib.run_convert_bytes_const (P := Tryz.prog) w 28 5 C n c Tryz.underlying28 Tryz.underlying5
  go_enter Tryz.func16, Tryz.ntmps16
  go_wp2_with fail
  refine (unhide HFR).mono ?_
  rintro e w1 ⟨hp, qb, rfl, HW⟩
  clear HFR
  go_wp2_with fail
  refine (unhide (QS _)).mono ?_
  rintro e w1 ⟨rfl, rfl⟩
  clear QS
  have HP1 : Hid (Calls Tryz.prog 27 #[.pointer (some ⟨qb, 0, none⟩), .slice (some ⟨w1.heap.size, 0, none⟩) 1 1] (w1.alloc (.cells #[.int .u8 97] 5 (1, 2))) fun e w' => e = .returned (.tuple #[.int .i64 1, .nilIface]) ∧ Hid (∃ b, QW w w' hp b qb N 2 ⟨0, [[97]]⟩ false 10000 100 10 (fun _ _ => True))) := by
    obtain ⟨b, hW⟩ := unhide HW
    obtain ⟨hl, hh, hE⟩ := unhide HL
    have hW2 := hW.keep stable_true ((Fr.refl _ _).alloc (.cells #[.int .u8 97] 5 (1, 2)))
    have hbt := bat_mark w1 97
    refine hide ((hW2.putOk stable_true hl (by omega) (by omega) (by omega) _ 1 [97] hbt rfl).mono ?_)
    rintro e w' ⟨he, h⟩
    exact ⟨he, hide ⟨b, (unhide h).up (by omega) (by omega) (by omega)⟩⟩
  go_wp2_with fail
  refine (unhide HP1).mono ?_
  rintro e w2 ⟨rfl, HW'⟩
  clear HP1 HW
  have HW := HW'
  clear HW'
  have HP2 : Hid (Calls Tryz.prog 27 #[.pointer (some ⟨qb, 0, none⟩), .slice (some ⟨w2.heap.size, 0, none⟩) 1 1] (w2.alloc (.cells #[.int .u8 98] 5 (1, 2))) fun e w' => e = .returned (.tuple #[.int .i64 2, .nilIface]) ∧ Hid (∃ b, QW w w' hp b qb N 2 ⟨0, [[97], [98]]⟩ false 20000 200 20 (fun _ _ => True))) := by
    obtain ⟨b, hW⟩ := unhide HW
    obtain ⟨hl, hh, hE⟩ := unhide HL
    have hW2 := hW.keep stable_true ((Fr.refl _ _).alloc (.cells #[.int .u8 98] 5 (1, 2)))
    have hbt := bat_mark w2 98
    refine hide ((hW2.putOk stable_true hl (by omega) (by omega) (by omega) _ 1 [98] hbt rfl).mono ?_)
    rintro e w' ⟨he, h⟩
    exact ⟨he, hide ⟨b, (unhide h).up (by omega) (by omega) (by omega)⟩⟩
  go_wp2_with fail
  refine (unhide HP2).mono ?_
  rintro e w3 ⟨rfl, HW'⟩
  clear HP2 HW
  have HW := HW'
  clear HW'
  have HP3 : Hid (Calls Tryz.prog 27 #[.pointer (some ⟨qb, 0, none⟩), .slice (some ⟨w3.heap.size, 0, none⟩) 1 1] (w3.alloc (.cells #[.int .u8 99] 5 (1, 2))) fun e w' => e = .returned (.tuple #[.int .i64 0, errV 4]) ∧ Hid (∃ b, QW w w' hp b qb N 2 ⟨0, [[97], [98]]⟩ false 20000 200 20 (fun _ _ => True))) := by
    obtain ⟨b, hW⟩ := unhide HW
    obtain ⟨hl, hh, hE⟩ := unhide HL
    have hW2 := hW.keep stable_true ((Fr.refl _ _).alloc (.cells #[.int .u8 99] 5 (1, 2)))
    have hbt := bat_mark w3 99
    refine hide ((hW2.putNo stable_true _ 1 [99] hbt (by decide)).mono ?_)
    rintro e w' ⟨he, h⟩
    exact ⟨he, hide ⟨b, (unhide h).up (by omega) (by omega) (by omega)⟩⟩
  go_wp2_with fail
  refine (unhide HP3).mono ?_
  rintro e w4 ⟨rfl, HW'⟩
  clear HP3 HW
  have HW := HW'
  clear HW'
  have HP4 : Hid (Calls Tryz.prog 33 #[.pointer (some ⟨qb, 0, none⟩), .int .i64 1] w4 fun e w' => e = .returned .nilIface ∧ Hid (∃ b, QW w w' hp b qb N 2 ⟨1, [[98]]⟩ false 30000 300 30 (fun _ _ => True))) := by
    obtain ⟨b, hW⟩ := unhide HW
    obtain ⟨hl, hh, hE⟩ := unhide HL
    refine hide ((hW.ackYes stable_true hl (by omega) (by omega) (by omega) 1 (by decide)).mono ?_)
    rintro e w' ⟨he, h⟩
    exact ⟨he, hide ⟨b, (unhide h).up (by omega) (by omega) (by omega)⟩⟩
  go_wp2_with fail
  refine (unhide HP4).mono ?_
  rintro e w5 ⟨rfl, HW'⟩
  clear HP4 HW
  have HW := HW'
  clear HW'
  have HP5 : Hid (Calls Tryz.prog 27 #[.pointer (some ⟨qb, 0, none⟩), .slice (some ⟨w5.heap.size, 0, none⟩) 1 1] (w5.alloc (.cells #[.int .u8 99] 5 (1, 2))) fun e w' => e = .returned (.tuple #[.int .i64 3, .nilIface]) ∧ Hid (∃ b, QW w w' hp b qb N 2 ⟨1, [[98], [99]]⟩ false 40000 400 40 (fun _ _ => True))) := by
    obtain ⟨b, hW⟩ := unhide HW
    obtain ⟨hl, hh, hE⟩ := unhide HL
    have hW2 := hW.keep stable_true ((Fr.refl _ _).alloc (.cells #[.int .u8 99] 5 (1, 2)))
    have hbt := bat_mark w5 99
    refine hide ((hW2.putOk stable_true hl (by omega) (by omega) (by omega) _ 1 [99] hbt rfl).mono ?_)
    rintro e w' ⟨he, h⟩
    exact ⟨he, hide ⟨b, (unhide h).up (by omega) (by omega) (by omega)⟩⟩
  go_wp2_with fail
  refine (unhide HP5).mono ?_
  rintro e w6 ⟨rfl, HW'⟩
  clear HP5 HW
  have HW := HW'
  clear HW'
  have HP6 : Hid (Calls Tryz.prog 25 #[.pointer (some ⟨qb, 0, none⟩)] w6 fun e w' => e = .returned .nilIface ∧ Hid (∃ b, QW w w' hp b qb N 2 ⟨1, [[98], [99]]⟩ true 40002 400 40 (fun _ _ => True))) := by
    obtain ⟨b, hW⟩ := unhide HW
    refine hide ((hW.sync stable_true (by omega)).mono ?_)
    rintro e w' ⟨he, h⟩
    exact ⟨he, hide ⟨b, (unhide h)⟩⟩
  go_wp2_with fail
  refine (unhide HP6).mono ?_
  rintro e w7 ⟨rfl, HW'⟩
  clear HP6 HW
  have HW := HW'
  clear HW'
  have HP7 : Hid (Calls Tryz.prog 29 #[.pointer (some ⟨hp, 0, none⟩), .slice none 0 0] w7 fun e w' => e = .returned (.tuple #[]) ∧ Hid (∃ b, QD w w' hp b N 2 ⟨1, [[98], [99]]⟩ 40002 400 (fun _ _ => True))) := by
    obtain ⟨b, hW⟩ := unhide HW
    refine hide (((hW.qd stable_true).crash stable_true (by omega)).mono ?_)
    rintro e w' ⟨he, h⟩
    exact ⟨he, hide ⟨b, (unhide h)⟩⟩
  go_wp2_with fail
  refine (unhide HP7).mono ?_
  rintro e w8 ⟨rfl, HW'⟩
  clear HP7 HW
  have HW := HW'
  clear HW'
  have HP8 : Hid (Calls Tryz.prog 13 #[.pointer (some ⟨hp, 0, none⟩)] w8 fun e w' => ∃ p, e = .returned (.pointer (some ⟨p, 0, none⟩)) ∧ Hid (Calls Tryz.prog 30 #[.pointer (some ⟨p, 0, none⟩), .int .i64 2] w' fun e w'' => ∃ qb', e = .returned (.tuple #[.pointer (some ⟨qb', 0, none⟩), .nilIface]) ∧ Hid (∃ b, QW w w'' hp b qb' N 2 ⟨1, [[98], [99]]⟩ false 60000 600 1 (fun _ _ => True)))) := by
    obtain ⟨b, hW⟩ := unhide HW
    obtain ⟨hl, hh, hE⟩ := unhide HL
    refine hide ((hW.disk stable_true).mono ?_)
    rintro e w' ⟨p, he, h⟩
    obtain ⟨R, d, h1, h2, h3, h4, D, h5, h6, h7, h8, h9, hk⟩ := unhide h
    refine ⟨p, he, hide ((QD.open stable_true hl h1 h2 h3 h4 D h5 h6 h7 h8 h9 hk (by omega) (by omega)).mono ?_)⟩
    rintro e w'' ⟨qb', he, hq⟩
    exact ⟨qb', he, hide ⟨b, (unhide hq).up (by omega) (by omega) (by omega)⟩⟩
  go_wp2_with fail
  refine (unhide HP8).mono ?_
  rintro e w9 ⟨p, rfl, HO⟩
  clear HP8 HW
  go_wp2_with fail
  refine (unhide HO).mono ?_
  rintro e w10 ⟨qb2, rfl, HW⟩
  clear HO
  have HPK : Hid (Calls Tryz.prog 32 #[.pointer (some ⟨qb2, 0, none⟩), .int .i64 9] w10 fun e w' => ∃ lo lc gl bo bc, e = .returned (.slice (some ⟨gl, 0, none⟩) 2 lc) ∧ lo = some (⟨gl, 0, none⟩ : Addr) ∧ w'.cell? ⟨gl, 0, none⟩ = some (.int .i64 2) ∧ w'.cell? ⟨gl, 3, none⟩ = some (.slice bo 1 bc) ∧ Hid (BAt w' bo bc [99]) ∧ Hid (∃ b, QW w w' hp b qb2 N 2 ⟨1, [[98], [99]]⟩ false 60000 600 1 (fun _ _ => True))) := by
    obtain ⟨b, hW⟩ := unhide HW
    obtain ⟨hl, hh, hE⟩ := unhide HL
    refine hide ((hW.peek stable_true hl 9).mono ?_)
    rintro e w' ⟨⟨lo, lc, gl, ga, vs, he, hK, hP, hF, _⟩, h⟩
    have hvl : vs.length = 4 := hP.1
    obtain ⟨k1, _⟩ := hP.2 0 (by decide)
    obtain ⟨_, bo, bc, k2, k3, _⟩ := hP.2 1 (by decide)
    have hc : 0 < lc := by have := hK.le; omega
    obtain rfl := hK.ad hc
    have v0 : vs[0]'(by omega) = .int .i64 2 := by
      have := k1
      rw [List.getElem?_eq_getElem (by omega)] at this
      injection this
    have v3 : vs[3]'(by omega) = .slice bo 1 bc := by
      have := k2
      rw [List.getElem?_eq_getElem (by omega)] at this
      injection this
    exact ⟨_, lc, gl, bo, bc, he, rfl, by rw [hK.cells 0 (by omega), v0], by rw [hK.cells 3 (by omega), v3], hide k3, hide ⟨b, unhide h⟩⟩
  go_wp2_with fail
  refine (unhide HPK).mono ?_
  rintro e w11 ⟨lo, lc, gl, bo, bc, rfl, rfl, d0, d3, hbt, HW'⟩
  clear HPK HW
  have HW := HW'
  clear HW'
  have NE : Hid (Calls Tryz.prog 28 #[errV 4] w11 fun e w' => e = .returned (.int .i64 4) ∧ Fr (fun _ => False) w11 w') := by
    obtain ⟨b, hW⟩ := unhide HW
    obtain ⟨hl, hh, hE⟩ := unhide HL
    exact hide (number_err w11 (hE.later hW.fr) 4)
  have HX : Hid (∀ u, Fr (fun _ => False) w11 u → u.cell? ⟨gl, 0, none⟩ = some (.int .i64 2) ∧ u.cell? ⟨gl, 3, none⟩ = some (.slice bo 1 bc) ∧ (convert 28 9 (.slice bo 1 bc)).run Tryz.prog u = .ok (.string ⟨#[99]⟩) u ∧ Calls Tryz.prog 34 #[.pointer (some ⟨qb2, 0, none⟩)] u fun e w' => e = .returned (.int .i64 1) ∧ w' = u) := by
    obtain ⟨b, hW⟩ := unhide HW
    have hlt := World.block_lt_of_cell? _ _ d0
    exact hide (fun u hu => ⟨(hu.cell (a := ⟨gl, 0, none⟩) hlt (fun t => t)).trans d0, (hu.cell (a := ⟨gl, 3, none⟩) hlt (fun t => t)).trans d3, conv_bat ((unhide hbt).later hu), (hW.keep stable_true hu).acked⟩)
  clear d0 d3
  go_wp2_with fail
  refine (unhide NE).mono ?_
  rintro e w12 ⟨rfl, hF⟩
  obtain ⟨m0, m3, mc, MA⟩ := unhide HX w12 hF
  have HMA := hide MA
  have HF := hide hF
  clear MA hF NE
  go_wp2_with fail
  refine (unhide HMA).mono ?_
  rintro e w12 ⟨rfl, rfl⟩
  go_wp2
  go_ret
  obtain ⟨b, hW⟩ := unhide HW
  exact ⟨rfl, hW.fr.trans (unhide HF) (fun _ _ t => t)⟩

end Go.Proofs.YtmnbfhgncooodaaGreatDoor

