import Derived.Test.YtjkghgcdkfkekaaGreatDoorQXI
import Derived.Test.YtjkghgcdkfkekaaGreatDoorYOX
import Derived.Test.YtjkghgcdkfkekaaGreatDoorQXH
import Derived.Test.YtjkghgcdkfkekaaGreatDoorQXG
import Derived.Deep.Cut
import Derived.Deep.CutBlock
/- Contract: play, one step of a script on a queue and on the document's. -/
namespace Go.Proofs.YtjkghgcdkfkekaaGreatDoor
open Go.RowKit

/-- The row behind a step. -/
def plQ (q : Qr) (lim : Nat) (x : OpQ) : Qr := if x.kind = 0 then (if putE q lim x.bs = 0 then ⟨q.acked, q.items ++ [x.bs]⟩ else q) else if x.kind = 1 ∨ x.kind = 5 then (if q.acked + (x.num % 8).toNat ≤ q.last then q.ack (q.acked + (x.num % 8).toNat) else q) else q

/-- A queue that lives, or the disk behind a refused call. -/
def Stt (w0 w : World) (hp b qb n lim : Nat) (q : Qr) (OK : List Bs → Prop) (B C N : Nat) (live : Bool) (Sd : World → (Nat → Prop) → Prop) : Prop :=
  (live = true → QA w0 w hp b qb n lim q OK B C N Sd) ∧ (live = false → QZ w0 w hp b n OK B C true (Ded qb Sd))

section
variable {w0 w w' : World} {hp b qb n lim : Nat} {q : Qr} {OK : List Bs → Prop} {B C N : Nat} {live : Bool} {Sd : World → (Nat → Prop) → Prop}

theorem Stt.refs (hT : TabAt w0) (h : Stt w0 w hp b qb n lim q OK B C N live Sd) :
    ∃ F : Nat → Prop, (∀ k, w.heap.size ≤ k → F k) ∧ Sd w F ∧ ∀ (w' : World) (S : Nat → Prop) (Sd' : World → (Nat → Prop) → Prop), Fr S w w' → (∀ k, k < w.heap.size → S k → F k ∧ w0.heap.size ≤ k) → Sd' w' F → Stt w0 w' hp b qb n lim q OK B C N live Sd' := by
  cases live with
  | true =>
    obtain ⟨F, h1, h2, h3⟩ := (h.1 rfl).refs hT
    exact ⟨F, h1, h2, fun w' S Sd' k1 k2 k3 => ⟨fun _ => h3 w' S Sd' k1 k2 k3, fun t => absurd t (by decide)⟩⟩
  | false =>
    obtain ⟨F, h1, ⟨⟨cs, c1, c2, c3⟩, h2⟩, h3⟩ := (h.2 rfl).refs hT
    refine ⟨fun k => F k ∧ k ≠ qb, fun k hk => ⟨h1 k hk, by have := c1.lt; omega⟩, h2, fun w' S Sd' k1 k2 k3 => ⟨fun t => absurd t (by decide), fun _ => h3 w' S _ k1 (fun k hk t => ⟨(k2 k hk t).1.1, (k2 k hk t).2⟩) ⟨⟨cs, c1.frame k1 (fun t => (k2 _ c1.lt t).1.2 rfl), c2, c3⟩, k3⟩⟩⟩

theorem Stt.fr (h : Stt w0 w hp b qb n lim q OK B C N live Sd) : Fr (fun _ => False) w0 w := by
  cases live with
  | true => exact (h.1 rfl).fr
  | false => exact (h.2 rfl).fr
theorem Stt.keep (hS : Stable Sd) (h : Stt w0 w hp b qb n lim q OK B C N live Sd) (hF : Fr (fun _ => False) w w') : Stt w0 w' hp b qb n lim q OK B C N live Sd :=
  ⟨fun t => (h.1 t).keep hS hF, fun t => (h.2 t).keep (Ded.stable hS) hF⟩
theorem Stt.side (hT : TabAt w0) (h : Stt w0 w hp b qb n lim q OK B C N live Sd) : ∃ F, Sd w F := by
  obtain ⟨F, _, h2, _⟩ := h.refs hT
  exact ⟨F, h2⟩
end

theorem OKs.more {stood : List Qr} {safe : Nat} (x : List Qr) (l : List Bs) (h : OKs stood safe l) : OKs (stood ++ x) safe l := by
  obtain ⟨i, q2, j1, j2, j3⟩ := h
  exact ⟨i, q2, j1, by rw [List.getElem?_append_left (List.getElem?_eq_some_iff.1 j2).1]; exact j2, j3⟩

/-- What play leaves. -/
def PlayR (w0 : World) (hp b qb n lim rb : Nat) (q' : Qr) (so : Option Addr) (sc : Nat) (stood : List Qr) (safe : Nat) (bx : List (Nat × Array Value × TypeId)) (B C N : Nat) (w' : World) : Prop :=
  ∃ live, Stt w0 w' hp b qb n lim q' (OKs (stood ++ [q']) safe) B C N live (PS w0 rb lim q' so sc stood bx [])

theorem PlayR.same {w0 w w' : World} {hp b qb n lim rb : Nat} {q : Qr} {so : Option Addr} {sc : Nat} {stood : List Qr} {safe : Nat} {y : Nat × Array Value × TypeId} {bx : List (Nat × Array Value × TypeId)} {B C N : Nat} (hT : TabAt w0) (h : QA w0 w hp b qb n lim q (OKs stood safe) B C N (PS w0 rb lim q so sc stood (y :: bx) [])) (hF : Fr (fun _ => False) w w') : PlayR w0 hp b qb n lim rb q so sc stood safe bx (B + 180 * hlf n + 6) (C + 1 + hlf n) (N + 1) w' := by
  have h2 := (h.keep PS.stable hF).mono (B' := B + 180 * hlf n + 6) (C' := C + 1 + hlf n) (N' := N + 1) (by omega) (by omega) (by omega) (OKs.more [q])
  obtain ⟨F, k1, k2, k3⟩ := h2.refs hT
  exact ⟨true, fun _ => k3 w' (fun _ => False) _ (Fr.refl _ _) (fun _ _ t => t.elim) k2.less, fun t => absurd t (by decide)⟩

set_option maxHeartbeats 1500000 in
set_option maxRecDepth 20000 in
theorem play_any (w0 w : World) {hp b qb n lim rb : Nat} {q : Qr} {so : Option Addr} {sc : Nat} {stood : List Qr} {safe : Nat} {bx : List (Nat × Array Value × TypeId)} {B C N : Nat} (hT : TabAt w0) (hE : ErrT w0) (hl : Lim lim n) (x : OpQ) (hx : x.ok w0) (h : QA w0 w hp b qb n lim q (OKs stood safe) B C N (PS w0 rb lim q so sc stood bx [])) (hs : safe ≤ stood.length) (hB' : B + 180 * hlf n + 600000 < 576460752303423488) (hC' : C ≤ 140737488355328) (hN' : N < 4611686018427387904) :
    Calls Tryz.prog 22 #[.pointer (some ⟨qb, 0, none⟩), .pointer (some ⟨rb, 0, none⟩), .agg #[.int .i64 x.kind, .int .i64 x.num, .slice x.bo x.bs.length x.bc]] w fun e w' => ∃ ev, e = .returned ev ∧ Hid (PlayR w0 hp b qb n lim rb (plQ q lim x) so sc stood safe bx (B + 180 * hlf n + 6) (C + 1 + hlf n) (N + 1) w') := by
  have HV : Hid (QA w0 (w.alloc (.cells #[.int .i64 x.kind, .int .i64 x.num, .slice x.bo x.bs.length x.bc] 54)) hp b qb n lim q (OKs stood safe) B C N (PS w0 rb lim q so sc stood ((w.heap.size, #[.int .i64 x.kind, .int .i64 x.num, .slice x.bo x.bs.length x.bc], 54) :: bx) [])) := by
    obtain ⟨F, h1, h2, h3⟩ := h.refs hT
    exact hide (h3 _ (fun _ => False) _ ((Fr.refl _ _).alloc _) (fun k _ t => t.elim) (h2.box h1 _ _))
  have HH := hide (And.intro hT (And.intro hE (And.intro hl (And.intro hx (And.intro hs (And.intro hB' (And.intro hC' (And.intro hN' h.ok))))))))
  have hbi : (x.bs.length : Int) ≤ 140737488355328 := by have := hx.bytes.2.2; omega
  clear h hT hE hl hx hs hB' hC' hN'
  go_enter Tryz.func22, Tryz.ntmps22
  go_upto_region 2 with (fail)
  generalize w.alloc (.cells #[.int .i64 x.kind, .int .i64 x.num, .slice x.bo x.bs.length x.bc] 54) = v at *
  generalize w.heap.size = og at *
  have d0 : v.cell? ⟨og, 0, none⟩ = some (.int .i64 x.kind) := by obtain ⟨F, hq⟩ := (unhide HV).side; exact (hq.boxAt (List.mem_cons_self)).cell 0
  have d1 : v.cell? ⟨og, 1, none⟩ = some (.int .i64 x.num) := by obtain ⟨F, hq⟩ := (unhide HV).side; exact (hq.boxAt (List.mem_cons_self)).cell 1
  have d2 : v.cell? ⟨og, 2, none⟩ = some (.slice x.bo x.bs.length x.bc) := by obtain ⟨F, hq⟩ := (unhide HV).side; exact (hq.boxAt (List.mem_cons_self)).cell 2
  by_cases hk0 : x.kind = 0
  · by_cases hpe : putE q lim x.bs = 0
    · have HPL : Hid (plQ q lim x = ⟨q.acked, q.items ++ [x.bs]⟩) := hide (by rw [plQ, if_pos hk0, if_pos hpe])
      have HP : Hid (Calls Tryz.prog 23 #[.pointer (some ⟨qb, 0, none⟩), .slice x.bo x.bs.length x.bc] v fun e w' => ∃ (fail : Bool) (iv ev : Value), e = .returned (.tuple #[iv, ev]) ∧ Hid (ev = if fail then errV 5 else .nilIface) ∧ Hid (Stt w0 w' hp b qb n lim ⟨q.acked, q.items ++ [x.bs]⟩ (OKs (stood ++ [⟨q.acked, q.items ++ [x.bs]⟩]) safe) (B + 180 * hlf n + 6) (C + 1 + hlf n) (N + 1) (!fail) (PS w0 rb lim q so sc stood ((og, #[.int .i64 x.kind, .int .i64 x.num, .slice x.bo x.bs.length x.bc], 54) :: bx) []))) := by
        obtain ⟨hT, hE, hl, hx, hs, hB', hC', hN', hok⟩ := unhide HH
        refine hide (((unhide HV).putOk PS.stable hl hs hB' hC' hN' x.bo x.bc x.bs (hx.bytes.later (unhide HV).fr) hpe).mono ?_)
        rintro e w' ⟨fail, he, hq⟩
        obtain ⟨q1, q2⟩ := unhide hq
        cases fail with
        | true => exact ⟨true, _, _, he, hide rfl, hide ⟨fun t => absurd t (by decide), fun _ => q2 rfl⟩⟩
        | false => exact ⟨false, _, _, he, hide rfl, hide ⟨fun _ => q1 rfl, fun t => absurd t (by decide)⟩⟩
      go_wp2_with fail
      refine (unhide HP).mono ?_
      rintro e w1 ⟨fail, iv, ev, rfl, HEV, HS⟩
      clear HP HV d0 d1 d2
      have RF : Hid (∀ u, Fr (fun _ => False) w1 u → Calls Tryz.prog 47 #[.pointer (some ⟨rb, 0, none⟩), .slice x.bo x.bs.length x.bc] u fun e w' => ∃ rv, e = .returned rv ∧ Hid (PlayR w0 hp b qb n lim rb ⟨q.acked, q.items ++ [x.bs]⟩ so sc stood safe bx (B + 180 * hlf n + 6) (C + 1 + hlf n) (N + 1) w')) := by
        obtain ⟨hT, hE, hl, hx, hs, hB', hC', hN', hok⟩ := unhide HH
        refine hide (fun u hu => ?_)
        have hst := (unhide HS).keep PS.stable hu
        obtain ⟨F, h1, h2, h3⟩ := hst.refs hT
        refine (h2.put h1 hst.fr.size hok.last hl.le x.bo x.bc x.bs (hx.bytes.later hst.fr) hpe).mono ?_
        rintro e w' ⟨he, ht⟩
        obtain ⟨S, k1, k2, k3⟩ := unhide ht
        exact ⟨_, he, hide ⟨_, h3 w' S _ k1 k2 k3.less⟩⟩
      have HC : Hid (∀ u, Fr (fun _ => False) w1 u → u.cell? ⟨og, 2, none⟩ = some (.slice x.bo x.bs.length x.bc)) := by
        obtain ⟨hT, hE, hl, hx, hs, hB', hC', hN', hok⟩ := unhide HH
        refine hide (fun u hu => ?_)
        obtain ⟨F, hq⟩ := ((unhide HS).keep PS.stable hu).side hT
        exact (hq.boxAt (List.mem_cons_self)).cell 2
      have NE : Hid (Calls Tryz.prog 24 #[errV 5] w1 fun e w' => e = .returned (.int .i64 5) ∧ Fr (fun _ => False) w1 w') := hide (number_err w1 ((unhide HH).2.1.later (unhide HS).fr) 5)
      have hn0 := run_eql_errV_nil w1 5
      clear HS
      obtain ⟨fl, rfl⟩ : ∃ fl : Bool, ev = (if fl = true then errV 5 else Value.nilIface) := ⟨fail, unhide HEV⟩
      clear HEV
      cases fl
      · have e2 := unhide HC w1 (Fr.refl _ _)
        clear HC NE hn0
        go_wp2_with fail
        refine (unhide RF w1 (Fr.refl _ _)).mono ?_
        rintro e w2 ⟨rv, rfl, HR⟩
        clear RF e2
        go_wp2
        go_ret
        exact ⟨_, rfl, by rw [unhide HPL]; exact HR⟩
      · go_wp2_with fail
        refine (unhide NE).mono ?_
        rintro e w2 ⟨rfl, hF2⟩
        have HF2 := hide hF2
        have e2 := unhide HC w2 hF2
        clear HC NE hn0 hF2
        go_wp2_with fail
        refine (unhide RF w2 (unhide HF2)).mono ?_
        rintro e w3 ⟨rv, rfl, HR⟩
        clear RF e2
        go_wp2
        go_ret
        exact ⟨_, rfl, by rw [unhide HPL]; exact HR⟩
    · have HPL : Hid (plQ q lim x = q) := hide (by rw [plQ, if_pos hk0, if_neg hpe])
      have hpz : putE q lim x.bs ≠ 5 := by unfold putE; split; (· decide); (· split; (· decide); (· split <;> decide))
      have HP : Hid (Calls Tryz.prog 23 #[.pointer (some ⟨qb, 0, none⟩), .slice x.bo x.bs.length x.bc] v fun e w' => e = .returned (.tuple #[.int .i64 0, errV (putE q lim x.bs)]) ∧ Hid (QA w0 w' hp b qb n lim q (OKs stood safe) B C N (PS w0 rb lim q so sc stood ((og, #[.int .i64 x.kind, .int .i64 x.num, .slice x.bo x.bs.length x.bc], 54) :: bx) []))) := by
        obtain ⟨hT, hE, hl, hx, hs, hB', hC', hN', hok⟩ := unhide HH
        exact hide ((unhide HV).putNo PS.stable x.bo x.bc x.bs (hx.bytes.later (unhide HV).fr) hpe)
      generalize putE q lim x.bs = pe at *
      have hp5 : (pe == 5) = false := by simpa using hpz
      go_wp2_with fail
      refine (unhide HP).mono ?_
      rintro e w1 ⟨rfl, HS⟩
      clear HP HV d0 d1 d2
      have NE : Hid (Calls Tryz.prog 24 #[errV pe] w1 fun e w' => e = .returned (.int .i64 pe) ∧ Fr (fun _ => False) w1 w') := hide (number_err w1 ((unhide HH).2.1.later (unhide HS).fr) pe)
      have hn0 := run_eql_errV_nil w1 pe
      go_wp2_with fail
      refine (unhide NE).mono ?_
      rintro e w2 ⟨rfl, hF2⟩
      have HF2 := hide hF2
      clear NE hn0 hF2
      go_wp2
      go_ret
      refine ⟨_, rfl, ?_⟩
      rw [unhide HPL]
      obtain ⟨hT, hE, hl, hx, hs, hB', hC', hN', hok⟩ := unhide HH
      exact hide (PlayR.same hT (unhide HS) (unhide HF2))
  · by_cases hk1 : x.kind = 1
    · obtain ⟨m, hm⟩ : ∃ m : Nat, (m : Int) = x.num % 8 := ⟨(x.num % 8).toNat, by omega⟩
      obtain ⟨z, hz⟩ : ∃ z, z = q.acked + m := ⟨_, rfl⟩
      have HPQ : Hid (plQ q lim x = if z ≤ q.last then q.ack z else q) := hide (by rw [hz, plQ, if_neg hk0, if_pos (.inl hk1), ← hm, Int.toNat_natCast])
      have hk0b : (x.kind == 0) = false := by simpa using hk0
      have hwn : bits .and .i64 x.num 7 = (m : Int) := by rw [i64_and7, ← hm]
      have hm7 : (m : Int) ≤ 7 := by omega
      have hack := (unhide HH).2.2.2.2.2.2.2.2.last
      have hle : q.last = q.acked + q.items.length := rfl
      have hwr : IntKind.i64.wrap ((q.acked : Int) + (m : Int)) = (z : Int) := by rw [IntKind.wrap_i64]; omega
      have c1 : v.cell? ⟨rb, 1, none⟩ = some (.int .i64 (q.acked : Int)) := by
        obtain ⟨F, hq⟩ := (unhide HV).side
        obtain ⟨M, E, hr⟩ := hq.rf
        obtain ⟨io, cap, g, off, hb, _⟩ := hr.ex
        exact hb.cell 1
      have hw64 : wrap64 ((q.acked : Int) + (m : Int)) = (z : Int) := by unfold wrap64; omega
      clear hack hle hz hm
      go_upto_region 9 with (fail)
      go_region_held3 (fun u => u.cell? ⟨rb, 1, none⟩ = some (.int .i64 (q.acked : Int)) ∧ u.cell? ⟨og, 1, none⟩ = some (.int .i64 x.num)) (first | exact ⟨c1, d1⟩) (fail)
      have HW : Hid (QA w0 v.drew hp b qb n lim q (OKs stood safe) B C N (PS w0 rb lim q so sc stood ((og, #[.int .i64 x.kind, .int .i64 x.num, .slice x.bo x.bs.length x.bc], 54) :: bx) [])) := hide ((unhide HV).keep PS.stable ((Fr.refl _ _).drew))
      clear HV c1 d0 d1 d2
      generalize v.drew = v' at *
      by_cases hsl : z ≤ q.last
      · have HPL : Hid (plQ q lim x = q.ack z) := hide (by rw [unhide HPQ, if_pos hsl])
        have HP : Hid (Calls Tryz.prog 44 #[.pointer (some ⟨qb, 0, none⟩), .int .i64 (z : Int)] v' fun e w' => ∃ (fail : Bool) (ev : Value), e = .returned ev ∧ Hid (ev = if fail then errV 5 else .nilIface) ∧ Hid (Stt w0 w' hp b qb n lim (q.ack z) (OKs (stood ++ [q.ack z]) safe) (B + 180 * hlf n + 6) (C + 1 + hlf n) (N + 1) (!fail) (PS w0 rb lim q so sc stood ((og, #[.int .i64 x.kind, .int .i64 x.num, .slice x.bo x.bs.length x.bc], 54) :: bx) []))) := by
          obtain ⟨hT, hE, hl, hx, hs, hB', hC', hN', hok⟩ := unhide HH
          refine hide (((unhide HW).ackYes PS.stable hl hs hB' hC' hN' z hsl).mono ?_)
          rintro e w' ⟨fail, he, hq⟩
          obtain ⟨q1, q2⟩ := unhide hq
          cases fail with
          | true => exact ⟨true, _, he, hide rfl, hide ⟨fun t => absurd t (by decide), fun _ => q2 rfl⟩⟩
          | false => exact ⟨false, _, he, hide rfl, hide ⟨fun _ => q1 rfl, fun t => absurd t (by decide)⟩⟩
        have HSL := hide hsl
        clear hsl HW
        go_wp2_with fail
        refine (unhide HP).mono ?_
        rintro e w1 ⟨fail, ev, rfl, HEV, HS⟩
        clear HP
        have RF : Hid (∀ u, Fr (fun _ => False) w1 u → Calls Tryz.prog 48 #[.pointer (some ⟨rb, 0, none⟩), .int .i64 (z : Int)] u fun e w' => ∃ rv, e = .returned rv ∧ Hid (PlayR w0 hp b qb n lim rb (q.ack z) so sc stood safe bx (B + 180 * hlf n + 6) (C + 1 + hlf n) (N + 1) w')) := by
          obtain ⟨hT, hE, hl, hx, hs, hB', hC', hN', hok⟩ := unhide HH
          refine hide (fun u hu => ?_)
          have hst := (unhide HS).keep PS.stable hu
          obtain ⟨F, h1, h2, h3⟩ := hst.refs hT
          refine (h2.ack h1 hst.fr.size hok.last z (unhide HSL)).mono ?_
          rintro e w' ⟨he, ht⟩
          obtain ⟨S, k1, k2, k3⟩ := unhide ht
          exact ⟨_, he, hide ⟨_, h3 w' S _ k1 k2 k3.less⟩⟩
        have NE : Hid (Calls Tryz.prog 24 #[errV 5] w1 fun e w' => e = .returned (.int .i64 5) ∧ Fr (fun _ => False) w1 w') := hide (number_err w1 ((unhide HH).2.1.later (unhide HS).fr) 5)
        have hn0 := run_eql_errV_nil w1 5
        clear HS
        obtain ⟨fl, rfl⟩ : ∃ fl : Bool, ev = (if fl = true then errV 5 else Value.nilIface) := ⟨fail, unhide HEV⟩
        clear HEV
        cases fl
        · clear NE hn0
          go_wp2_with fail
          refine (unhide RF w1 (Fr.refl _ _)).mono ?_
          rintro e w2 ⟨rv, rfl, HR⟩
          clear RF
          go_wp2
          go_ret
          exact ⟨_, rfl, by rw [unhide HPL]; exact HR⟩
        · go_wp2_with fail
          refine (unhide NE).mono ?_
          rintro e w2 ⟨rfl, hF2⟩
          have HF2 := hide hF2
          clear NE hn0 hF2
          go_wp2_with fail
          refine (unhide RF w2 (unhide HF2)).mono ?_
          rintro e w3 ⟨rv, rfl, HR⟩
          clear RF
          go_wp2
          go_ret
          exact ⟨_, rfl, by rw [unhide HPL]; exact HR⟩
      · have HPL : Hid (plQ q lim x = q) := hide (by rw [unhide HPQ, if_neg hsl])
        have HP : Hid (Calls Tryz.prog 44 #[.pointer (some ⟨qb, 0, none⟩), .int .i64 (z : Int)] v' fun e w' => e = .returned (errV 1) ∧ Hid (QA w0 w' hp b qb n lim q (OKs stood safe) B C N (PS w0 rb lim q so sc stood ((og, #[.int .i64 x.kind, .int .i64 x.num, .slice x.bo x.bs.length x.bc], 54) :: bx) []))) := hide ((unhide HW).ackNo PS.stable _ (.inr (by omega)))
        clear hsl HW
        go_wp2_with fail
        refine (unhide HP).mono ?_
        rintro e w1 ⟨rfl, HS⟩
        clear HP
        have NE : Hid (Calls Tryz.prog 24 #[errV 1] w1 fun e w' => e = .returned (.int .i64 1) ∧ Fr (fun _ => False) w1 w') := hide (number_err w1 ((unhide HH).2.1.later (unhide HS).fr) 1)
        have hn0 := run_eql_errV_nil w1 1
        go_wp2_with fail
        refine (unhide NE).mono ?_
        rintro e w2 ⟨rfl, hF2⟩
        have HF2 := hide hF2
        clear NE hn0 hF2
        go_wp2
        go_ret
        refine ⟨_, rfl, ?_⟩
        rw [unhide HPL]
        obtain ⟨hT, hE, hl, hx, hs, hB', hC', hN', hok⟩ := unhide HH
        exact hide (PlayR.same hT (unhide HS) (unhide HF2))
    · by_cases hk5 : x.kind = 5
      · obtain ⟨m, hm⟩ : ∃ m : Nat, (m : Int) = x.num % 8 := ⟨(x.num % 8).toNat, by omega⟩
        obtain ⟨z, hz⟩ : ∃ z, z = q.acked + m := ⟨_, rfl⟩
        have HPQ : Hid (plQ q lim x = if z ≤ q.last then q.ack z else q) := hide (by rw [hz, plQ, if_neg hk0, if_pos (.inr hk5), ← hm, Int.toNat_natCast])
        have hk0b : (x.kind == 0) = false := by simpa using hk0
        have hk1b : (x.kind == 1) = false := by simpa using hk1
        have hwn : bits .and .i64 x.num 7 = (m : Int) := by rw [i64_and7, ← hm]
        have hm7 : (m : Int) ≤ 7 := by omega
        have hack := (unhide HH).2.2.2.2.2.2.2.2.last
        have hle : q.last = q.acked + q.items.length := rfl
        have hwr : IntKind.i64.wrap ((q.acked : Int) + (m : Int)) = (z : Int) := by rw [IntKind.wrap_i64]; omega
        have c1 : v.cell? ⟨rb, 1, none⟩ = some (.int .i64 (q.acked : Int)) := by
          obtain ⟨F, hq⟩ := (unhide HV).side
          obtain ⟨M, E, hr⟩ := hq.rf
          obtain ⟨io, cap, g, off, hb, _⟩ := hr.ex
          exact hb.cell 1
        have hw64 : wrap64 ((q.acked : Int) + (m : Int)) = (z : Int) := by unfold wrap64; omega
        clear hack hle hz hm
        go_upto_region 9 with (fail)
        go_region_held3 (fun u => u.cell? ⟨rb, 1, none⟩ = some (.int .i64 (q.acked : Int)) ∧ u.cell? ⟨og, 1, none⟩ = some (.int .i64 x.num)) (first | exact ⟨c1, d1⟩) (fail)
        have HW : Hid (QA w0 v.drew hp b qb n lim q (OKs stood safe) B C N (PS w0 rb lim q so sc stood ((og, #[.int .i64 x.kind, .int .i64 x.num, .slice x.bo x.bs.length x.bc], 54) :: bx) [])) := hide ((unhide HV).keep PS.stable ((Fr.refl _ _).drew))
        clear HV c1 d0 d1 d2
        generalize v.drew = v' at *
        by_cases hsl : z ≤ q.last
        · have HPL : Hid (plQ q lim x = q.ack z) := hide (by rw [unhide HPQ, if_pos hsl])
          have HP : Hid (Calls Tryz.prog 44 #[.pointer (some ⟨qb, 0, none⟩), .int .i64 (z : Int)] v' fun e w' => ∃ (fail : Bool) (ev : Value), e = .returned ev ∧ Hid (ev = if fail then errV 5 else .nilIface) ∧ Hid (Stt w0 w' hp b qb n lim (q.ack z) (OKs (stood ++ [q.ack z]) safe) (B + 180 * hlf n + 6) (C + 1 + hlf n) (N + 1) (!fail) (PS w0 rb lim q so sc stood ((og, #[.int .i64 x.kind, .int .i64 x.num, .slice x.bo x.bs.length x.bc], 54) :: bx) []))) := by
            obtain ⟨hT, hE, hl, hx, hs, hB', hC', hN', hok⟩ := unhide HH
            refine hide (((unhide HW).ackYes PS.stable hl hs hB' hC' hN' z hsl).mono ?_)
            rintro e w' ⟨fail, he, hq⟩
            obtain ⟨q1, q2⟩ := unhide hq
            cases fail with
            | true => exact ⟨true, _, he, hide rfl, hide ⟨fun t => absurd t (by decide), fun _ => q2 rfl⟩⟩
            | false => exact ⟨false, _, he, hide rfl, hide ⟨fun _ => q1 rfl, fun t => absurd t (by decide)⟩⟩
          have HSL := hide hsl
          clear hsl HW
          go_wp2_with fail
          refine (unhide HP).mono ?_
          rintro e w1 ⟨fail, ev, rfl, HEV, HS⟩
          clear HP
          have RF : Hid (∀ u, Fr (fun _ => False) w1 u → Calls Tryz.prog 48 #[.pointer (some ⟨rb, 0, none⟩), .int .i64 (z : Int)] u fun e w' => ∃ rv, e = .returned rv ∧ Hid (PlayR w0 hp b qb n lim rb (q.ack z) so sc stood safe bx (B + 180 * hlf n + 6) (C + 1 + hlf n) (N + 1) w')) := by
            obtain ⟨hT, hE, hl, hx, hs, hB', hC', hN', hok⟩ := unhide HH
            refine hide (fun u hu => ?_)
            have hst := (unhide HS).keep PS.stable hu
            obtain ⟨F, h1, h2, h3⟩ := hst.refs hT
            refine (h2.ack h1 hst.fr.size hok.last z (unhide HSL)).mono ?_
            rintro e w' ⟨he, ht⟩
            obtain ⟨S, k1, k2, k3⟩ := unhide ht
            exact ⟨_, he, hide ⟨_, h3 w' S _ k1 k2 k3.less⟩⟩
          have NE : Hid (Calls Tryz.prog 24 #[errV 5] w1 fun e w' => e = .returned (.int .i64 5) ∧ Fr (fun _ => False) w1 w') := hide (number_err w1 ((unhide HH).2.1.later (unhide HS).fr) 5)
          have hn0 := run_eql_errV_nil w1 5
          clear HS
          obtain ⟨fl, rfl⟩ : ∃ fl : Bool, ev = (if fl = true then errV 5 else Value.nilIface) := ⟨fail, unhide HEV⟩
          clear HEV
          cases fl
          · clear NE hn0
            go_wp2_with fail
            refine (unhide RF w1 (Fr.refl _ _)).mono ?_
            rintro e w2 ⟨rv, rfl, HR⟩
            clear RF
            go_wp2
            go_ret
            exact ⟨_, rfl, by rw [unhide HPL]; exact HR⟩
          · go_wp2_with fail
            refine (unhide NE).mono ?_
            rintro e w2 ⟨rfl, hF2⟩
            have HF2 := hide hF2
            clear NE hn0 hF2
            go_wp2_with fail
            refine (unhide RF w2 (unhide HF2)).mono ?_
            rintro e w3 ⟨rv, rfl, HR⟩
            clear RF
            go_wp2
            go_ret
            exact ⟨_, rfl, by rw [unhide HPL]; exact HR⟩
        · have HPL : Hid (plQ q lim x = q) := hide (by rw [unhide HPQ, if_neg hsl])
          have HP : Hid (Calls Tryz.prog 44 #[.pointer (some ⟨qb, 0, none⟩), .int .i64 (z : Int)] v' fun e w' => e = .returned (errV 1) ∧ Hid (QA w0 w' hp b qb n lim q (OKs stood safe) B C N (PS w0 rb lim q so sc stood ((og, #[.int .i64 x.kind, .int .i64 x.num, .slice x.bo x.bs.length x.bc], 54) :: bx) []))) := hide ((unhide HW).ackNo PS.stable _ (.inr (by omega)))
          clear hsl HW
          go_wp2_with fail
          refine (unhide HP).mono ?_
          rintro e w1 ⟨rfl, HS⟩
          clear HP
          have NE : Hid (Calls Tryz.prog 24 #[errV 1] w1 fun e w' => e = .returned (.int .i64 1) ∧ Fr (fun _ => False) w1 w') := hide (number_err w1 ((unhide HH).2.1.later (unhide HS).fr) 1)
          have hn0 := run_eql_errV_nil w1 1
          go_wp2_with fail
          refine (unhide NE).mono ?_
          rintro e w2 ⟨rfl, hF2⟩
          have HF2 := hide hF2
          clear NE hn0 hF2
          go_wp2
          go_ret
          refine ⟨_, rfl, ?_⟩
          rw [unhide HPL]
          obtain ⟨hT, hE, hl, hx, hs, hB', hC', hN', hok⟩ := unhide HH
          exact hide (PlayR.same hT (unhide HS) (unhide HF2))
      · have HPL : Hid (plQ q lim x = q) := hide (by rw [plQ, if_neg hk0, if_neg (by intro t; rcases t with t | t; (· exact hk1 t); (· exact hk5 t))])
        have hk0b : (x.kind == 0) = false := by simpa using hk0
        have hk1b : (x.kind == 1) = false := by simpa using hk1
        have hk5b : (x.kind == 5) = false := by simpa using hk5
        go_wp2
        go_ret
        refine ⟨_, rfl, ?_⟩
        rw [unhide HPL]
        obtain ⟨hT, hE, hl, hx, hs, hB', hC', hN', hok⟩ := unhide HH
        exact hide (PlayR.same hT (unhide HV) (Fr.refl _ _))

end Go.Proofs.YtjkghgcdkfkekaaGreatDoor

/- What QueuePower begins with: a fresh queue, the document's beside it, the row of clones with the first. -/
namespace Go.Proofs.YtjkghgcdkfkekaaGreatDoor
open Go.RowKit

set_option maxHeartbeats 400000 in
set_option maxRecDepth 20000 in
theorem fresh_qa (w : World) (hT : TabAt w) (lim more : Nat) (h1 : 1 ≤ lim) (h2 : lim ≤ 16) (h3 : more ≤ 7) :
    Calls Tryz.prog 15 #[.int .i64 (lim : Int), .int .i64 (more : Int)] w fun e w' => ∃ hp qb, e = .returned (.tuple #[.pointer (some ⟨hp, 0, none⟩), .pointer (some ⟨qb, 0, none⟩)]) ∧ Hid (∃ b, QA w w' hp b qb (2 + 2 * qH lim + more) lim ⟨0, []⟩ (OKs [⟨0, []⟩] 0) 3000 16 1 (fun _ _ => True)) := by
  obtain ⟨hl, hq12, hh⟩ := lim_fresh lim more h1 h2 h3
  have QS := qsec_any w (lim : Int)
  have hmay : mayQ (lim : Int) = true := by simp [mayQ]; omega
  rw [qsecF, hmay, if_pos rfl, Int.toNat_natCast] at QS
  obtain ⟨n, hn⟩ : ∃ n, n = 2 + 2 * qH lim + more := ⟨_, rfl⟩
  rw [← hn] at hl hh ⊢
  have NB := new_dn w (fun _ => 0) ⟨hT, rfl⟩ (fun _ _ => rfl) n (by omega)
  have hnI : (2 : Int) + 2 * (qH lim : Int) + (more : Int) = (n : Int) := by omega
  obtain ⟨sc, hsc⟩ : ∃ x : Int, x = 2 + 2 * (qH lim : Int) := ⟨_, rfl⟩
  rw [← hsc] at QS hnI
  have hwr : IntKind.i64.wrap (sc + (more : Int)) = (n : Int) := by rw [hnI, IntKind.wrap_i64]; omega
  have H1 : Hid (Calls Tryz.prog 8 #[.int .i64 (n : Int)] w fun e w' => ∃ hp, e = .returned (.pointer (some ⟨hp, 0, none⟩)) ∧ Hid (∃ R b, Dn w' R hp b n (Dk.new n) ∧ UpR w (fun _ => 0) R ∧ Fr (fun _ => False) w w')) := by
    refine hide (NB.mono ?_)
    rintro e w' ⟨R', p, b, rfl, k1, k2, k3⟩
    exact ⟨p, rfl, hide ⟨R', b, k1, k2, k3⟩⟩
  have HQ := hide QS
  have HH := hide (And.intro hl hh)
  have hnb : (n : Int) ≤ 1048576 := by have := hl.max; omega
  have hn0 : (0 : Int) ≤ (n : Int) := by omega
  have hw64 : wrap64 (n : Int) = (n : Int) := by unfold wrap64; omega
  clear NB QS hmay hn hsc h1 h2 h3 hl hh hT hq12
  go_enter Tryz.func15, Tryz.ntmps15
  go_wp2_with fail
  refine (unhide HQ).mono ?_
  rintro e w1 ⟨rfl, rfl⟩
  go_wp2_with fail
  refine (unhide H1).mono ?_
  rintro e w2 ⟨hp, rfl, HD⟩
  have H2 : Hid (Calls Tryz.prog 11 #[.pointer (some ⟨hp, 0, none⟩)] w2 fun e w' => ∃ p, e = .returned (.pointer (some ⟨p, 0, none⟩)) ∧ Hid (∃ R b, Dn w' R hp b n (Dk.new n) ∧ UpR w1 (fun _ => 0) R ∧ Fr (fun _ => False) w1 w' ∧ Dsk w' R p b n)) := by
    obtain ⟨R, b, D, u, f⟩ := unhide HD
    refine hide (D.disk.mono ?_)
    rintro e w' ⟨R', p, he, k1, k2, k3, k4⟩
    exact ⟨p, he, hide ⟨R', b, k2, u.trans k3 f.size, f.trans k4 (fun _ _ t => t), k1⟩⟩
  clear H1 HQ hwr
  go_wp2_with fail
  refine (unhide H2).mono ?_
  rintro e w3 ⟨p, rfl, HE⟩
  have H3 : Hid (Calls Tryz.prog 26 #[.pointer (some ⟨p, 0, none⟩), .int .i64 (lim : Int)] w3 fun e w' => ∃ qb, e = .returned (.tuple #[.pointer (some ⟨qb, 0, none⟩), .nilIface]) ∧ Hid (∃ b, QA w1 w' hp b qb n lim ⟨0, []⟩ (OKs [⟨0, []⟩] 0) 3000 16 1 (fun _ _ => True))) := by
    obtain ⟨R, b, D, u, f, hk⟩ := unhide HE
    obtain ⟨hl, hh⟩ := unhide HH
    have hpot : (Dk.new n).pot = 0 := rfl
    have hz : hold (Dk.new n).look = (0, 1, 1) := hold_new0 _ rfl rfl
    have HOP := wopen_first (OK := fun l => qOf l = some ⟨0, []⟩) D hk rfl rfl hl.four hl.max (by omega) hz qOf_nil
    have HQO := qopen_of (OK := fun l => qOf l = some ⟨0, []⟩) hk hl (fun l hl => ⟨⟨0, []⟩, hl, ⟨by simp [Qr.last], by simp, fun b hb => by cases hb⟩⟩) D.tab.1.pos HOP
    refine hide (HQO.mono ?_)
    rintro e w' ⟨fail, d', R', u1, f1, D1, st, fnd, ar, e1, e2⟩
    obtain ⟨qb', l, G', h', a', rs', q2, O, he, hG, L, hok, hO⟩ := e2 (ar rfl)
    have hpt := st.pot
    have hq2 : q2 = ⟨0, []⟩ := by
      have := L.told
      rw [hok] at this
      injection this with this
      exact this.symm
    subst hq2
    exact ⟨qb', he, hide ⟨b, R', O, p, l, d', G', h', a', rs', rs'.length, 1, by omega, by omega, Nat.le_refl _, L, Told.all (i := 0) L.told (Nat.le_refl _) rfl, f.trans f1 (fun k hk t => t (by rw [u k hk])), fun k hk => ⟨by rw [u1 k (Nat.lt_of_lt_of_le hk f.size), u k hk], fun t => by have := hO k t; have := f.size; omega⟩, trivial⟩⟩
  clear H2 HD
  go_wp2_with fail
  refine (unhide H3).mono ?_
  rintro e w4 ⟨qb, rfl, HW⟩
  clear H3 HE
  go_wp2
  go_ret2
  exact ⟨hp, qb, rfl, HW⟩

/-- The document's queue, new, in a box of a client; a box that was there ahead. -/
theorem QA.first {w0 w : World} {hp b qb n lim : Nat} {q : Qr} {OK : List Bs → Prop} {B C N : Nat} (hT : TabAt w0) (h : QA w0 w hp b qb n lim q OK B C N (fun _ _ => True)) :
    QA w0 (w.alloc (.cells #[.int .i64 (lim : Int), .int .i64 0, .slice none 0 0] 49)) hp b qb n lim q OK B C N (PS w0 w.heap.size lim ⟨0, []⟩ none 0 [] [] []) := by
  obtain ⟨F, h1, _, h3⟩ := h.refs hT
  have hs0 := h.fr.size
  refine h3 _ (fun _ => False) _ ((Fr.refl _ _).alloc _) (fun _ _ t => t.elim) ⟨fun k => k = w.heap.size, fun _ => False, 0, [], fun k t => ⟨by simp [t], by omega, h1 k (by omega)⟩, fun k t => t.elim, fun k _ t => t, ⟨none, 0, 0, 0, Bx.new _ _ _, rfl, fun hc => absurd hc (by omega), Its.nil _ _ _ _⟩, KRow.nil _ _ _, rfl, fun i hi => absurd hi (by simp), fun hc => absurd hc (by omega), fun x hx => absurd hx (by simp), fun c hc => absurd hc (by simp)⟩

/-- The row of clones, laid with the first one. -/
theorem PS.lay {w0 w : World} {rb lim : Nat} {q : Qr} {cb : Nat} {qc : Qr} {F : Nat → Prop} (hN : ∀ k, w.heap.size ≤ k → F k) (hF0 : w0.heap.size ≤ w.heap.size) (h : PS w0 rb lim q none 0 [] [] [(cb, qc)] w F) :
    PS w0 rb lim q (some ⟨w.heap.size, 0, none⟩) 1 [qc] [] [] (w.alloc (.cells #[.pointer (some ⟨cb, 0, none⟩)] 47)) F := by
  have hF : Fr (fun _ => False) w (w.alloc (.cells #[.pointer (some ⟨cb, 0, none⟩)] 47)) := (Fr.refl _ w).alloc _
  obtain ⟨M, E, gs, cbs, h1, h2, h3, h4, h5, h6, h7, h8, h9, h10⟩ := h
  have hsz := hF.size
  have hb := Bx.new w #[.pointer (some ⟨cb, 0, none⟩)] 47
  refine ⟨M, E, w.heap.size, [cb], fun k t => ⟨by have := (h1 k t).1; omega, (h1 k t).2⟩, fun k t => ⟨by have := (h2 k t).1; omega, (h2 k t).2⟩, h3, h4.keep hF, ⟨by simp, by simp [maxLen], fun _ => rfl, fun j hj => ⟨?_, hb.frozen j⟩, fun j hj => ?_, fun u hu => ?_⟩, rfl, fun i a c => ?_, fun hc => ⟨hF0, hN _ (Nat.le_refl _), fun t => by have := (h1 _ t).1; omega, fun t => by have := (h2 _ t).1; omega⟩, fun x hx => absurd hx (by simp), fun c hc => absurd hc (by simp)⟩
  · obtain rfl : j = 0 := by omega
    rw [hb.cell 0]; rfl
  · obtain rfl : j = 0 := by simp at hj; omega
    rw [hb.cell 0]; rfl
  · simp at hu; subst hu; rfl
  · obtain rfl : i = 0 := by simp at a; omega
    exact (h10 (cb, qc) (List.mem_cons_self)).keep hF

end Go.Proofs.YtjkghgcdkfkekaaGreatDoor

/- The walk of QueuePower. -/
namespace Go.Proofs.YtjkghgcdkfkekaaGreatDoor
open Go.RowKit

theorem QA.whence {w00 w0 w : World} {hp b qb n lim : Nat} {q : Qr} {OK : List Bs → Prop} {B C N : Nat} (hF : Fr (fun _ => False) w00 w0) (h : QA w0 w hp b qb n lim q OK B C N (fun _ _ => True)) : QA w00 w hp b qb n lim q OK B C N (fun _ _ => True) := by
  obtain ⟨R, O, p, l, d, G, k, a, rs, s, num, h1, h2, h3, L, t, h6, h7, h8⟩ := h
  exact ⟨R, O, p, l, d, G, k, a, rs, s, num, h1, h2, h3, L, t, hF.trans h6 (fun _ _ t => t), fun k hk => h7 k (Nat.lt_of_lt_of_le hk hF.size), h8⟩

theorem QY.keep {w0 w w' : World} {hp b n : Nat} {OK : List Bs → Prop} {B C : Nat} {af : Bool} {Sd : World → (Nat → Prop) → Prop} (hS : Stable Sd) (h : QY w0 w hp b n OK B C af Sd none) (hF : Fr (fun _ => False) w w') : QY w0 w' hp b n OK B C af Sd none := by
  obtain ⟨R, d, h1, h2, h3, h4, D, f, h6, h7, h8, h9⟩ := h
  exact ⟨R, d, h1, h2, h3, h4, D.keep hF, f, h6.trans hF (fun _ _ t => t), h7, hS _ _ _ _ h8 (hF.mono (fun _ _ t => t.elim)) (fun _ _ t => t), fun x hx => by cases hx⟩

/-- What the script's loop holds. -/
def PI (w wr : World) (hp b qb n lim i rb : Nat) (q : Qr) (so : Option Addr) (sc : Nat) (stood : List Qr) (safe : Nat) (live : Bool) : Prop :=
  Stt w wr hp b qb n lim q (OKs stood safe) (3000 * (i + 1)) (20 * (i + 1)) (i + 1) live (PS w rb lim q so sc stood [] []) ∧ stood[stood.length - 1]? = some q ∧ safe < stood.length ∧ stood.length ≤ i + 1 ∧ ∀ x ∈ stood, x.Ok lim

theorem plQ_ok {q : Qr} {lim : Nat} (h : q.Ok lim) (hl : lim ≤ 4096) (x : OpQ) : (plQ q lim x).Ok lim := by
  unfold plQ
  split
  · split
    · rename_i he
      have hE' : x.bs.length ≤ 256 ∧ q.items.length < lim ∧ q.last < 4294967295 := by
        unfold putE at he
        split at he
        · cases he
        · split at he
          · cases he
          · split at he
            · cases he
            · omega
      exact (Qr.put_ok h hl x.bs hE'.1 hE'.2.1 hE'.2.2).2.2.2
    · exact h
  · split
    · split
      · rename_i hs
        unfold Qr.ack
        split
        · exact h
        · exact (Qr.ack_ok h _ (by omega) hs).2.2.2.1
      · exact h
    · exact h

set_option maxHeartbeats 2000000 in
set_option maxRecDepth 20000 in
theorem qpower_walk (w0 : World) (hT0 : TabAt w0) (hE0 : ErrT w0) (n0 : Int) (ao : Option Addr) (ac : Nat) (ps : List OpQ) (hO0 : OpqAt w0 ao ps) (f1 : FtA) (hf1 : f1.ok w0) (fo : Option Addr) (fc : Nat) (fs : List FtA) (hfs : FtsAt w0 fo fs) :
    Calls Tryz.prog 5 #[.int .i64 n0, .slice ao ps.length ac, .agg #[.int .i64 f1.acts, .bool f1.done, .slice f1.ko f1.ks.length f1.kc], .slice fo fs.length fc] w0 fun e w' => e = .returned (.bool true) ∧ Fr (fun _ => False) w0 w' := by
  obtain ⟨w, hw⟩ : ∃ w, w = w0.alloc (.cells #[.int .i64 f1.acts, .bool f1.done, .slice f1.ko f1.ks.length f1.kc] 58) := ⟨_, rfl⟩
  have hFa : Fr (fun _ => False) w0 w := by rw [hw]; exact (Fr.refl _ _).alloc _
  have hbf : Bx w w0.heap.size #[.int .i64 f1.acts, .bool f1.done, .slice f1.ko f1.ks.length f1.kc] 58 := by rw [hw]; exact Bx.new _ _ _
  have hT := hT0.later hFa
  have hE := hE0.later hFa
  have A := hide (awake10_any w hT hE)
  obtain ⟨k, hk⟩ : ∃ k : Nat, (k : Int) = n0 % 16 := ⟨(n0 % 16).toNat, by omega⟩
  have hk15 : k ≤ 15 := by omega
  have hand : bits .and .i64 n0 15 = (k : Int) := by rw [i64_and15, hk]
  have hkI : (k : Int) ≤ 15 := by omega
  obtain ⟨N, hN⟩ : ∃ N, N = 2 + 2 * qH (1 + k) + 0 := ⟨_, rfl⟩
  have hL : Lim (1 + k) N ∧ hlf N ≤ 15 := by rw [hN]; have h := lim_fresh (1 + k) 0 (by omega) (by omega) (by omega); exact ⟨h.1, h.2.2⟩
  have HFR : Hid (∀ u, Fr (fun _ => False) w u → Calls Tryz.prog 15 #[.int .i64 (1 + (k : Int)), .int .i64 0] u fun e w' => ∃ hp qb, e = .returned (.tuple #[.pointer (some ⟨hp, 0, none⟩), .pointer (some ⟨qb, 0, none⟩)]) ∧ Hid (∃ b, QA w (w'.alloc (.cells #[.int .i64 (1 + (k : Int)), .int .i64 0, .slice none 0 0] 49)) hp b qb N (1 + k) ⟨0, []⟩ (OKs [⟨0, []⟩] 0) 3000 16 1 (PS w w'.heap.size (1 + k) ⟨0, []⟩ none 0 [] [] []))) := by
    refine hide (fun u hu => ?_)
    have h := fresh_qa u (hT.later hu) (1 + k) 0 (by omega) (by omega) (by omega)
    rw [← hN, show ((1 + k : Nat) : Int) = 1 + (k : Int) by omega] at h
    refine h.mono ?_
    rintro e w' ⟨hp, qb, he, hq⟩
    obtain ⟨b, hq⟩ := unhide hq
    have h2 := (QA.whence hu hq).first hT
    rw [show ((1 + k : Nat) : Int) = 1 + (k : Int) by omega] at h2
    exact ⟨hp, qb, he, hide ⟨b, h2⟩⟩
  have HW := hide hw
  have HA := hide hFa
  have HH := hide (And.intro hT (And.intro hE (And.intro hO0 (And.intro hf1 (And.intro hfs (And.intro hL.1 (And.intro hL.2 (And.intro hk15 hbf))))))))
  have hps : (ps.length : Int) ≤ 140737488355328 := by have := hO0.small; omega
  have hfl : (fs.length : Int) ≤ 140737488355328 := by have := hfs.small; omega
  clear hT0 hE0 hO0 hf1 hfs hFa hbf hT hE hL hN hk hk15
  go_enter Tryz.func5, Tryz.ntmps5
  go_upto_region 1 with (fail)
  rw [← unhide HW]
  clear HW hw
  generalize w0.heap.size = fg at *
  go_wp2_with fail
  refine (unhide A).mono ?_
  rintro e w1 ⟨rfl, hF1⟩
  have HF1 := hide hF1
  clear A hF1
  go_wp2_with fail
  refine (unhide HFR _ (unhide HF1)).mono ?_
  rintro e w2 ⟨hp, qb, rfl, HD⟩
  clear HFR HF1 hand
  go_upto_region 7 with (fail)
  obtain ⟨b, HD⟩ : ∃ b, Hid (QA w (w2.alloc (.cells #[.int .i64 (1 + (k : Int)), .int .i64 0, .slice none 0 0] 49)) hp b qb N (1 + k) ⟨0, []⟩ (OKs [⟨0, []⟩] 0) 3000 16 1 (PS w w2.heap.size (1 + k) ⟨0, []⟩ none 0 [] [] [])) := by
    obtain ⟨b, h⟩ := unhide HD
    exact ⟨b, hide h⟩
  generalize w2.alloc (.cells #[.int .i64 (1 + (k : Int)), .int .i64 0, .slice none 0 0] 49) = w3 at *
  generalize w2.heap.size = rb at *
  have CL : Hid (Calls Tryz.prog 18 #[.pointer (some ⟨rb, 0, none⟩)] w3 fun e w' => ∃ cb, e = .returned (.pointer (some ⟨cb, 0, none⟩)) ∧ Hid (QA w (w'.alloc (.cells #[.pointer (some ⟨cb, 0, none⟩)] 47)) hp b qb N (1 + k) ⟨0, []⟩ (OKs [⟨0, []⟩] 0) 3000 16 1 (PS w rb (1 + k) ⟨0, []⟩ (some ⟨w'.heap.size, 0, none⟩) 1 [⟨0, []⟩] [] []))) := by
    obtain ⟨F, h1, h2, h3⟩ := (unhide HD).refs (unhide HH).1
    refine hide ((h2.clone h1 (by simp)).mono ?_)
    rintro e w' ⟨cb, he, hq⟩
    obtain ⟨q1, q2⟩ := unhide hq
    have hs := (unhide HD).fr.size
    have hs1 := q1.size
    exact ⟨cb, he, hide (h3 _ (fun _ => False) _ (q1.alloc _) (fun _ _ t => t.elim) (q2.lay (fun k hk => h1 k (by omega)) (by omega)))⟩
  clear HD
  go_wp2_with fail
  refine (unhide CL).mono ?_
  rintro e w4 ⟨cb, rfl, HD⟩
  clear CL
  go_upto_region 9 with (fail)
  generalize w4.alloc (.cells #[.pointer (some ⟨cb, 0, none⟩)] 47) = w5 at *
  generalize w4.heap.size = gs at *
  have g0 : w5.cell? ⟨fg, 0, none⟩ = some (.int .i64 f1.acts) := ((unhide HH).2.2.2.2.2.2.2.2.keep (unhide HD).fr).cell 0
  have g1 : w5.cell? ⟨fg, 1, none⟩ = some (.bool f1.done) := ((unhide HH).2.2.2.2.2.2.2.2.keep (unhide HD).fr).cell 1
  have AR : Hid (Calls Tryz.prog 19 #[.pointer (some ⟨hp, 0, none⟩), .int .i64 f1.acts, .bool f1.done] w5 fun e w' => e = .returned (.tuple #[]) ∧ Hid (PI w w' hp b qb N (1 + k) 0 rb ⟨0, []⟩ (some ⟨gs, 0, none⟩) 1 [⟨0, []⟩] 0 true)) := by
    refine hide (((unhide HD).arm PS.stable f1.acts (by have := (unhide HH).2.2.2.1.acts.2; omega) f1.done).mono ?_)
    rintro e w' ⟨he, hq⟩
    exact ⟨he, hide ⟨⟨fun _ => (unhide hq).mono (by omega) (by omega) (by omega) (fun _ t => t), fun t => absurd t (by decide)⟩, rfl, by simp, by simp, fun x hx => by
      simp at hx
      subst hx
      exact ⟨by simp [Qr.last], by simp, fun b hb => by cases hb⟩⟩⟩
  clear HD
  go_wp2_with fail
  refine (unhide AR).mono ?_
  rintro e w6 ⟨rfl, HP⟩
  clear AR g0 g1
  go_upto_block 0 with (fail)
  go_cut [13, 14, 15, 16] from 54 to 93 (fun v13 v14 _ _ wc => ∃ (i : Nat) (q : Qr) (so : Option Addr) (sc : Nat) (stood : List Qr) (safe : Nat) (live : Bool), i ≤ 60 ∧ v13 = .slice so (List.length stood) sc ∧ v14 = .int .i64 (safe : Nat) ∧ Hid (PI w wc hp b qb N (1 + k) i rb q so sc stood safe live))
  case first =>
    go_wp2_with fail
    go_loopw [13, 14, 15, 16] (fun v13 v14 iv _ wr => ∃ (i : Nat) (q : Qr) (so : Option Addr) (sc : Nat) (stood : List Qr) (safe : Nat) (live : Bool), i ≤ ps.length ∧ i ≤ 60 ∧ v13 = .slice so (List.length stood) sc ∧ v14 = .int .i64 (safe : Nat) ∧ iv = .int .i64 (i : Nat) ∧ Hid (PI w wr hp b qb N (1 + k) i rb q so sc stood safe live)) (fun _ _ iv _ _ => 60 - (intOf iv).toNat)
    case atStart => exact ⟨0, ⟨0, []⟩, some ⟨gs, 0, none⟩, 1, [⟨0, []⟩], 0, true, Nat.zero_le _, Nat.zero_le _, rfl, rfl, rfl, HP⟩
    case round =>
      obtain ⟨i, q, so, sc, stood, safe, live, hi, hi60, rfl, rfl, rfl, HR⟩ := hrel
      clear HP
      by_cases hlt : i < ps.length ∧ i < 60
      · obtain ⟨hl1, hl2⟩ := hlt
        have hI1 : (i : Int) < (ps.length : Int) := by omega
        have hI2 : (i : Int) < 60 := by omega
        cases live with
        | false =>
          have DN := hide ((unhide HR).1.2 rfl).down
          go_wp2_with fail
          refine (unhide DN).mono ?_
          rintro e u ⟨rfl, rfl⟩
          clear DN
          go_wp2
          go_meet
          case rel => exact ⟨i, q, so, sc, stood, safe, false, hi60, rfl, rfl, HR⟩
        | true =>
          have DN := hide ((unhide HR).1.1 rfl).down
          go_wp2_with fail
          refine (unhide DN).mono ?_
          rintro e u ⟨rfl, rfl⟩
          clear DN
          obtain ⟨pb, po, hpa, hpc⟩ := (unhide HH).2.2.1.cells (by omega)
          subst hpa
          have hcl : ∀ j, j < 3 → u.cell? ⟨pb, po + i * 3 + j, none⟩ = (ps[i].vals)[j]? := fun j hj => by
            have h := hpc i hl1 j hj
            have hlt : pb < w0.heap.size := by
              have hs : ((ps[i].vals)[j]?).isSome = true := by
                have : j < ps[i].vals.length := by simpa [OpQ.vals] using hj
                simp [this]
              rw [← h] at hs
              obtain ⟨u, hu⟩ := Option.isSome_iff_exists.1 hs
              exact World.block_lt_of_cell? _ _ hu
            exact (((unhide HA).trans (unhide HR).1.fr (fun _ _ t => t)).cell (a := ⟨pb, po + i * 3 + j, none⟩) hlt (fun t => t)).trans h
          obtain ⟨x, hx⟩ : ∃ x, x = ps[i] := ⟨_, rfl⟩
          rw [← hx] at hcl
          have HQ : Hid (x.ok w) := by
            rw [hx]
            have h := (unhide HH).2.2.1.ok i hl1
            exact hide ⟨h.kind, h.num, h.bytes.later (unhide HA)⟩
          clear hx hpc
          have c0 : u.cell? ⟨pb, po + i * 3, none⟩ = some (.int .i64 x.kind) := hcl 0 (by omega)
          have c1 : u.cell? ⟨pb, po + i * 3 + 1, none⟩ = some (.int .i64 x.num) := hcl 1 (by omega)
          have c2 : u.cell? ⟨pb, po + i * 3 + 2, none⟩ = some (.slice x.bo x.bs.length x.bc) := hcl 2 (by omega)
          clear hcl
          have hsl : (stood.length : Int) ≤ 61 ∧ (1 : Int) ≤ (stood.length : Int) := by obtain ⟨_, _, h3, h4, _⟩ := unhide HR; omega
          obtain ⟨hsl1, hsl2⟩ := hsl
          by_cases hk2 : x.kind = 2
          · have SY : Hid (Calls Tryz.prog 21 #[.pointer (some ⟨qb, 0, none⟩)] u fun e w' => ∃ (fail : Bool) (ev : Value), e = .returned ev ∧ Hid (ev = if fail then errV 5 else .nilIface) ∧ Hid ((fail = false → PI w w' hp b qb N (1 + k) (i + 1) rb q so sc stood (stood.length - 1) true) ∧ (fail = true → PI w w' hp b qb N (1 + k) (i + 1) rb q so sc stood safe false))) := by
              obtain ⟨h1, h2, h3, h4, h5⟩ := unhide HR
              refine hide (((h1.1 rfl).sync PS.stable h2 (by omega)).mono ?_)
              rintro e w' ⟨fail, he, hq⟩
              obtain ⟨q1, q2⟩ := unhide hq
              exact ⟨fail, _, he, hide rfl, hide ⟨fun hf => ⟨⟨fun _ => (q1 hf).mono (by omega) (by omega) (by omega) (fun _ t => t), fun t => absurd t (by decide)⟩, h2, by omega, by omega, h5⟩, fun hf => ⟨⟨fun t => absurd t (by decide), fun _ => (q2 hf).mono (by omega) (by omega) (fun _ t => t)⟩, h2, h3, by omega, h5⟩⟩⟩
            go_wp2_with fail
            refine (unhide SY).mono ?_
            rintro e w7 ⟨fail, ev, rfl, HEV, HS⟩
            clear SY c0 c1 c2
            have hn0 := run_eql_errV_nil w7 5
            cases fail with
            | true =>
              obtain rfl := unhide HEV
              go_wp2
              exact ⟨⟨i + 1, q, so, sc, stood, safe, false, by omega, by omega, rfl, rfl, by go_num, hide ((unhide HS).2 (by first | exact trivial | rfl))⟩, by simp [intOf]; omega⟩
            | false =>
              obtain rfl := unhide HEV
              go_wp2
              exact ⟨⟨i + 1, q, so, sc, stood, stood.length - 1, true, by omega, by omega, rfl, by rw [show ((stood.length - 1 : Nat) : Int) = (stood.length : Int) - 1 by omega], by go_num, hide ((unhide HS).1 (by first | exact trivial | rfl))⟩, by simp [intOf]; omega⟩
          · have hk2b : (x.kind == 2) = false := by simpa using hk2
            have PL : Hid (Calls Tryz.prog 22 #[.pointer (some ⟨qb, 0, none⟩), .pointer (some ⟨rb, 0, none⟩), .agg #[.int .i64 x.kind, .int .i64 x.num, .slice x.bo x.bs.length x.bc]] u fun e w' => ∃ ev, e = .returned ev ∧ Hid (PlayR w hp b qb N (1 + k) rb (plQ q (1 + k) x) so sc stood safe [] (3000 * (i + 1) + 180 * hlf N + 6) (20 * (i + 1) + 1 + hlf N) (i + 1 + 1) w')) := by
              obtain ⟨h1, h2, h3, h4, h5⟩ := unhide HR
              obtain ⟨hT, hE, _, _, _, hl, hh, _, _⟩ := unhide HH
              exact hide (play_any w u hT hE hl x (unhide HQ) (h1.1 rfl) (by omega) (by omega) (by omega) (by omega))
            have HOQ : Hid ((plQ q (1 + k) x).Ok (1 + k)) := by
              obtain ⟨h1, h2, h3, h4, h5⟩ := unhide HR
              exact hide (plQ_ok (h1.1 rfl).ok (unhide HH).2.2.2.2.2.1.le x)
            generalize plQ q (1 + k) x = q' at *
            go_wp2_with fail
            refine (unhide PL).mono ?_
            rintro e w7 ⟨ev, rfl, HS⟩
            clear PL c0 c1 c2
            have CL : Hid (Calls Tryz.prog 18 #[.pointer (some ⟨rb, 0, none⟩)] w7 fun e w' => ∃ cb, e = .returned (.pointer (some ⟨cb, 0, none⟩)) ∧ ∃ so' sc' w'', Hid ((Builtin.append_ #[61, 61] 61 #[.slice so stood.length sc, .slice (some ⟨w'.heap.size, 0, none⟩) 1 1]).run Tryz.prog (w'.alloc (.cells #[.pointer (some ⟨cb, 0, none⟩)] 47)) = .ok (.slice so' (stood.length + 1) sc') w'') ∧ ∃ live, Hid (PI w w'' hp b qb N (1 + k) (i + 1) rb q' so' sc' (stood ++ [q']) safe live)) := by
              obtain ⟨live, hs⟩ := unhide HS
              obtain ⟨hT, hE, _, _, _, hl, hh, _, _⟩ := unhide HH
              obtain ⟨_, j2, j3, j4, j5⟩ := unhide HR
              obtain ⟨F, h1, h2, h3⟩ := hs.refs hT
              refine hide ((h2.clone h1 (by have := ((unhide HOQ).mono hl.le).many; exact this)).mono ?_)
              rintro e w' ⟨cb, he, hq⟩
              obtain ⟨q1, q2⟩ := unhide hq
              have hsz := q1.size
              have hs0 := hs.fr.size
              obtain ⟨so', sc', w'', hrun, S, t1, t2, t3⟩ := q2.app (fun k hk => h1 k (by omega)) (by omega) (by omega)
              have hst := h3 w'' (fun k => S k) _ ((q1.mono (fun _ _ t => t.elim)).trans t1 (fun _ _ t => t)) (fun k hk t => t2 k (by omega) t) t3
              refine ⟨cb, he, so', sc', w'', hide hrun, live, hide ⟨⟨fun t => (hst.1 t).mono (by omega) (by omega) (by omega) (fun _ t => t), fun t => (hst.2 t).mono (by omega) (by omega) (fun _ t => t)⟩, by simp, by simp; omega, by simp; omega, fun y hy => ?_⟩⟩
              rcases List.mem_append.1 hy with hy | hy
              · exact j5 y hy
              · simp at hy; subst hy; exact unhide HOQ
            go_wp2_with fail
            refine (unhide CL).mono ?_
            rintro e w8 ⟨cb', rfl, so', sc', w9, HRUN, live', HP⟩
            clear CL HS
            go_wp2_with (at_builtin; refine wpList_append_known' _ rfl (.tmp 89) (.tmp 92) 61 61 rfl rfl rfl (unhide HRUN) ?_)
            exact ⟨⟨i + 1, q', so', sc', stood ++ [q'], safe, live', by omega, by omega, by simp, rfl, by go_num, HP⟩, by simp [intOf]; omega⟩
      · by_cases hl1 : i < ps.length
        · have hI1 : (i : Int) < (ps.length : Int) := by omega
          have hI2 : decide ((i : Int) < 60) = false := by simp; omega
          have hI3 : decide (i < 60) = false := by simp; omega
          go_wp2
          go_meet
          case rel => exact ⟨i, q, so, sc, stood, safe, live, hi60, rfl, rfl, HR⟩
        · have hI1 : decide ((i : Int) < (ps.length : Int)) = false := by simp; omega
          have hI3 : decide (i < ps.length) = false := by simp; omega
          go_wp2
          go_meet
          case rel => exact ⟨i, q, so, sc, stood, safe, live, hi60, rfl, rfl, HR⟩
  case rest =>
    obtain ⟨i, q, so, sc, stood, safe, live, hi60, rfl, rfl, HR⟩ := hcut
    clear HP
    have HF : Hid (∀ x, Fr (fun _ => False) w x → ErrT x) := hide (fun x hx => (unhide HH).2.1.later hx)
    have HST : Hid (safe < stood.length ∧ stood.length ≤ 61 ∧ ∀ x ∈ stood, x.Ok (1 + k)) := by
      obtain ⟨_, h2, h3, h4, h5⟩ := unhide HR
      exact hide ⟨h3, by omega, h5⟩
    have HOK : Hid (∀ l, OKs stood safe l → ∃ q, qOf l = some q ∧ q.Ok (1 + k)) := hide (fun l hl => by
      obtain ⟨j, q2, _, j2, j3⟩ := hl
      exact ⟨q2, j3, (unhide HST).2.2 q2 (List.mem_of_getElem? j2)⟩)
    have hsl : (stood.length : Int) ≤ 61 := by have := (unhide HST).2.1; omega
    have hsf : (safe : Int) < (stood.length : Int) := by have := (unhide HST).1; omega
    have DN : Hid (Calls Tryz.prog 20 #[.pointer (some ⟨hp, 0, none⟩)] wc fun e w' => e = .returned (.bool (!live)) ∧ w' = wc) := by
      cases live with
      | true => exact hide ((unhide HR).1.1 rfl).down
      | false => exact hide ((unhide HR).1.2 rfl).down
    go_wp2_with fail
    refine (unhide DN).mono ?_
    rintro e u ⟨rfl, rfl⟩
    clear DN
    go_upto_if 95 with (fail)
    go_cut [17, 18, 19] from 94 to 110 (fun _ _ _ wd => Hid (∃ dn, QZ w wd hp b N (OKs stood safe) 190000 1300 dn (PS w rb (1 + k) q so sc stood [] [])))
    case first =>
      cases live with
      | true =>
        have HZ := hide (((unhide HR).1.1 rfl).qz PS.stable)
        clear HR
        go_wp2
        go_meet
        case rel => exact hide ⟨false, (unhide HZ).mono (by omega) (by omega) (fun _ t => t)⟩
      | false =>
        have HZ := hide ((unhide HR).1.2 rfl)
        clear HR
        have SD := hide (unhide HZ).syncDead
        go_wp2_with fail
        refine (unhide SD).mono ?_
        rintro e u2 ⟨rfl, rfl⟩
        clear SD
        have PD := hide ((unhide HZ).putDead none 0 0)
        go_wp2_with fail
        refine (unhide PD).mono ?_
        rintro e u3 ⟨rfl, rfl⟩
        clear PD
        have N1 := hide (number_err u3 (unhide HF _ (unhide HZ).fr) 101)
        go_wp2_with fail
        refine (unhide N1).mono ?_
        rintro e u4 ⟨rfl, hf4⟩
        clear N1
        have HZ4 := hide ((unhide HZ).keep (Ded.stable PS.stable) hf4)
        clear HZ hf4
        have N2 := hide (number_err u4 (unhide HF _ (unhide HZ4).fr) 101)
        go_wp2_with fail
        refine (unhide N2).mono ?_
        rintro e u5 ⟨rfl, hf5⟩
        clear N2
        have HZ5 := hide ((unhide HZ4).keep (Ded.stable PS.stable) hf5)
        clear HZ4 hf5
        go_wp2
        go_meet
        case rel => exact hide ⟨true, ((unhide HZ5).undead PS.stable).mono (by omega) (by omega) (fun _ t => t)⟩
    case rest =>
      clear HR
      obtain ⟨dn, hZ⟩ := unhide hcut
      have HZ := hide hZ
      clear hcut hZ
      have x2 : wc.cell? ⟨fg, 2, none⟩ = some (.slice f1.ko f1.ks.length f1.kc) := ((unhide HH).2.2.2.2.2.2.2.2.keep (unhide HZ).fr).cell 2
      have HCR := hide ((unhide HZ).loss PS.stable (by omega) f1.ko f1.kc f1.ks ((unhide HH).2.2.2.1.keep.frame (unhide HA) (fun _ _ _ _ t => t)))
      go_wp2_with fail
      refine (unhide HCR).mono ?_
      rintro e w6 ⟨rfl, HY⟩
      clear HCR HZ x2
      go_upto_block 2 with (fail)
      go_cut [20, 21, 22] from 115 to 164 (fun _ _ _ wd => Hid (QY w wd hp b N (OKs stood safe) 220000 1500 true (PS w rb (1 + k) q so sc stood [] []) none))
      case first =>
        go_wp2
        go_loopw [20] (fun iv wr => ∃ i : Nat, i ≤ fs.length ∧ i ≤ 6 ∧ iv = .int .i64 (i : Nat) ∧ Hid (QY w wr hp b N (OKs stood safe) (190000 + 3000 * i) (1300 + 20 * i) true (PS w rb (1 + k) q so sc stood [] []) none)) (fun iv _ => 6 - (intOf iv).toNat)
        case atStart => exact ⟨0, Nat.zero_le _, Nat.zero_le _, rfl, HY⟩
        case round =>
          obtain ⟨i, hi, hi6, rfl, HR⟩ := hrel
          clear HY
          by_cases hl1 : i < fs.length
          · have hI1 : (i : Int) < (fs.length : Int) := by omega
            by_cases hl2 : i < 6
            · have hI2 : (i : Int) < 6 := by omega
              obtain ⟨pb, po, hpa, hpc⟩ := (unhide HH).2.2.2.2.1.cells (by omega)
              subst hpa
              obtain ⟨f, hf⟩ : ∃ f, f = fs[i] := ⟨_, rfl⟩
              have HQ : Hid (f.ok w0) := by rw [hf]; exact hide ((unhide HH).2.2.2.2.1.ok i hl1)
              have HCL : Hid (∀ x, Fr (fun _ => False) w x → x.cell? ⟨pb, po + i * 3, none⟩ = some (.int .i64 f.acts) ∧ x.cell? ⟨pb, po + i * 3 + 1, none⟩ = some (.bool f.done) ∧ x.cell? ⟨pb, po + i * 3 + 2, none⟩ = some (.slice f.ko f.ks.length f.kc)) := by
                refine hide (fun x hx => ?_)
                have hx := (unhide HA).trans hx (fun _ _ t => t)
                have h0 : w0.cell? ⟨pb, po + i * 3, none⟩ = some (.int .i64 f.acts) := by have h := hpc i hl1 0 (by omega); rw [← hf] at h; exact h
                have h1 : w0.cell? ⟨pb, po + i * 3 + 1, none⟩ = some (.bool f.done) := by have h := hpc i hl1 1 (by omega); rw [← hf] at h; exact h
                have h2 : w0.cell? ⟨pb, po + i * 3 + 2, none⟩ = some (.slice f.ko f.ks.length f.kc) := by have h := hpc i hl1 2 (by omega); rw [← hf] at h; exact h
                have hlt := World.block_lt_of_cell? _ _ h0
                exact ⟨(hx.cell (a := ⟨pb, po + i * 3, none⟩) hlt (fun t => t)).trans h0, (hx.cell (a := ⟨pb, po + i * 3 + 1, none⟩) hlt (fun t => t)).trans h1, (hx.cell (a := ⟨pb, po + i * 3 + 2, none⟩) hlt (fun t => t)).trans h2⟩
              clear hf hpc
              have HKA : Hid (KeepAt w f.ko f.kc f.ks) := hide ((unhide HQ).keep.frame (unhide HA) (fun _ _ _ _ t => t))
              have HAR := hide (((unhide HR).keep PS.stable ((Fr.refl _ _).drew)).arm PS.stable f.acts (by have := (unhide HQ).acts; omega) f.done)
              have HFR := hide (unhide HR).fr
              clear HR
              go_upto_region 28 with (fail)
              go_region_held3 (fun w' => w'.cell? ⟨pb, po + i * 3, none⟩ = some (.int .i64 f.acts) ∧ w'.cell? ⟨pb, po + i * 3 + 1, none⟩ = some (.bool f.done)) (first | exact ⟨(unhide HCL _ ((unhide HFR).trans ((Fr.refl _ _).drew) (fun _ _ t => t))).1, (unhide HCL _ ((unhide HFR).trans ((Fr.refl _ _).drew) (fun _ _ t => t))).2.1⟩ | exact ⟨(unhide HCL _ (unhide HZ1).fr).1, (unhide HCL _ (unhide HZ1).fr).2.1⟩) (first | (go_at_call 19; refine (unhide HAR).mono ?_; rintro e u1 ⟨rfl, HZ1⟩))
              clear HAR HFR
              have HDK := hide ((unhide HZ1).disk PS.stable)
              go_wp2_with fail
              refine (unhide HDK).mono ?_
              rintro e u2 ⟨q2, rfl, HZ2⟩
              clear HDK HZ1
              have HOP : Hid (Calls Tryz.prog 26 #[.pointer (some ⟨q2, 0, none⟩), .int .i64 (1 + (k : Int))] u2 fun e w' => (e = .returned (.tuple #[.pointer none, errV 5]) ∧ Hid (QZ w w' hp b N (OKs stood safe) (190000 + 3000 * (i + 1)) (1300 + 20 * (i + 1)) true (PS w rb (1 + k) q so sc stood [] []))) ∨ ∃ qb, e = .returned (.tuple #[.pointer (some ⟨qb, 0, none⟩), .nilIface]) ∧ Hid (QZ w w' hp b N (OKs stood safe) (190000 + 3000 * (i + 1)) (1300 + 20 * (i + 1)) false (PS w rb (1 + k) q so sc stood [] []))) := by
                have h := (unhide HZ2).open PS.stable (unhide HH).2.2.2.2.2.1 (unhide HOK) (by have := (unhide HH).2.2.2.2.2.2.1; omega) (by omega)
                rw [show ((1 + k : Nat) : Int) = 1 + (k : Int) by omega] at h
                have hh := (unhide HH).2.2.2.2.2.2.1
                refine hide (h.mono ?_)
                rintro e w' (⟨_, h1, h2⟩ | ⟨qb, h1, h2⟩)
                · exact .inl ⟨h1, hide ((unhide h2).mono (by omega) (by omega) (fun _ t => t))⟩
                · obtain ⟨q3, l3, _, _, h3⟩ := unhide h2
                  exact .inr ⟨qb, h1, hide ((h3.qz PS.stable).mono (by omega) (by omega) (fun _ t => t))⟩
              go_wp2_with fail
              refine (unhide HOP).mono ?_
              have hn0 : ∀ u : World, _ := fun u => run_eql_errV_nil u 5
              rintro e u3 (⟨rfl, HZ3⟩ | ⟨qb3, rfl, HZ3⟩)
              · clear HOP HZ2
                have HNU := hide (number_err u3 (unhide HF _ (unhide HZ3).fr) 5)
                go_wp2_with fail
                refine (unhide HNU).mono ?_
                rintro e nw ⟨rfl, hnf⟩
                have HNW := hide ((unhide HZ3).keep PS.stable hnf)
                clear hnf HNU HZ3
                have y2 := (unhide HCL _ (unhide HNW).fr).2.2
                have HCR := hide ((unhide HNW).loss PS.stable (by omega) f.ko f.kc f.ks (unhide HKA))
                go_wp2_with fail
                refine (unhide HCR).mono ?_
                rintro e u4 ⟨rfl, HZ4⟩
                clear HCR HNW y2
                go_wp2
                exact ⟨⟨i + 1, by omega, by omega, by go_num, HZ4⟩, by simp [intOf]; omega⟩
              · clear HOP HZ2
                have y2 := (unhide HCL _ (unhide HZ3).fr).2.2
                have HCR := hide ((unhide HZ3).loss PS.stable (by omega) f.ko f.kc f.ks (unhide HKA))
                go_wp2_with fail
                refine (unhide HCR).mono ?_
                rintro e u4 ⟨rfl, HZ4⟩
                clear HCR HZ3 y2
                go_wp2
                exact ⟨⟨i + 1, by omega, by omega, by go_num, HZ4⟩, by simp [intOf]; omega⟩
            · have hI2 : ¬ ((i : Int) < 6) := by omega
              go_wp2
              go_meet
              case rel => exact hide ((unhide HR).mono (by omega) (by omega))
          · have hI1 : ¬ ((i : Int) < (fs.length : Int)) := by omega
            go_wp2
            go_meet
            case rel => exact hide ((unhide HR).mono (by omega) (by omega))
      case rest =>
        have HDK := hide ((unhide hcut).disk PS.stable)
        go_wp2_with fail
        refine (unhide HDK).mono ?_
        rintro e u1 ⟨q2, rfl, HZ2⟩
        clear HDK hcut HY
        have HOP : Hid (Calls Tryz.prog 26 #[.pointer (some ⟨q2, 0, none⟩), .int .i64 (1 + (k : Int))] u1 fun e w' => ∃ qb, e = .returned (.tuple #[.pointer (some ⟨qb, 0, none⟩), .nilIface]) ∧ ∃ (j : Nat) (q3 : Qr), Hid (safe ≤ j ∧ stood[j]? = some q3 ∧ QA w w' hp b qb N (1 + k) q3 (OKs stood safe) 230000 1600 1 (PS w rb (1 + k) q so sc stood [] []))) := by
          have h := (unhide HZ2).open PS.stable (unhide HH).2.2.2.2.2.1 (unhide HOK) (by have := (unhide HH).2.2.2.2.2.2.1; omega) (by omega)
          rw [show ((1 + k : Nat) : Int) = 1 + (k : Int) by omega] at h
          have hh := (unhide HH).2.2.2.2.2.2.1
          refine hide (h.mono ?_)
          rintro e w' (⟨h0, _, _⟩ | ⟨qb, h1, h2⟩)
          · cases h0
          · obtain ⟨q3, l3, ⟨j, q4, j1, j2, j3⟩, h4, h3⟩ := unhide h2
            have e34 : q4 = q3 := by rw [h4] at j3; injection j3 with j3; exact j3.symm
            subst e34
            exact ⟨qb, h1, j, q4, hide ⟨j1, j2, h3.mono (by omega) (by omega) (by omega) (fun _ t => t)⟩⟩
        go_wp2_with fail
        refine (unhide HOP).mono ?_
        rintro e u2 ⟨qb3, rfl, j, q3, HJ⟩
        clear HOP HZ2
        have HAL : Hid (∀ u, Fr (fun _ => False) u2 u → ∀ (m : Nat) (hm : m < stood.length), ∃ gs cb, so = some ⟨gs, 0, none⟩ ∧ u.cell? ⟨gs, m, none⟩ = some (.pointer (some ⟨cb, 0, none⟩)) ∧ Calls Tryz.prog 17 #[.pointer (some ⟨qb3, 0, none⟩), .pointer (some ⟨cb, 0, none⟩)] u (AlikeR u q3 stood[m])) := by
          refine hide (fun u hu m hm => ?_)
          have hQ := (unhide HJ).2.2.keep PS.stable hu
          obtain ⟨F, hS⟩ := hQ.side
          obtain ⟨gs, cb, E, e1, e2, e3⟩ := hS.at m hm
          have hle := (unhide HH).2.2.2.2.2.1.le
          exact ⟨gs, cb, e1, e2, alike_any u qb3 cb (1 + k) q3 stood[m] (hQ.asks (unhide HH).2.2.2.2.2.1) e3 (hQ.ok.mono hle) (((unhide HST).2.2 _ (List.getElem_mem hm)).mono hle)⟩
        obtain ⟨gs', hso⟩ : ∃ gs, so = some ⟨gs, 0, none⟩ := by
          obtain ⟨gs, cb, e1, _⟩ := unhide HAL u2 (Fr.refl _ _) safe (unhide HST).1
          exact ⟨gs, e1⟩
        subst hso
        have HJ2 : Hid (safe ≤ j ∧ stood[j]? = some q3 ∧ Fr (fun _ => False) w u2) := hide ⟨(unhide HJ).1, (unhide HJ).2.1, (unhide HJ).2.2.fr⟩
        clear HJ
        go_upto_region 36 with (fail)
        go_wp2
        go_loopw [25, 26] (fun iv _ wr => ∃ m : Nat, safe ≤ m ∧ m ≤ j ∧ iv = .int .i64 (m : Nat) ∧ Hid (Fr (fun _ => False) u2 wr)) (fun iv _ _ => j - (intOf iv).toNat)
        case atStart => exact ⟨safe, Nat.le_refl _, (unhide HJ2).1, rfl, hide (Fr.refl _ _)⟩
        case round =>
          obtain ⟨m, hm1, hm2, rfl, HW⟩ := hrel
          have hjl : j < stood.length := (List.getElem?_eq_some_iff.1 (unhide HJ2).2.1).1
          have hml : m < stood.length := by omega
          have hmI : (m : Int) < (stood.length : Int) := by omega
          obtain ⟨gs2, cb2, e1, cm, hcall⟩ := unhide HAL _ (unhide HW) m hml
          injection e1 with e1
          injection e1 with e1
          subst e1
          have HC : Hid (Calls Tryz.prog 17 #[.pointer (some ⟨qb3, 0, none⟩), .pointer (some ⟨cb2, 0, none⟩)] wr fun e w' => ∃ r : Bool, e = .returned (.bool r) ∧ Hid ((m = j → r = true) ∧ Fr (fun _ => False) wr w')) := by
            refine hide (hcall.mono ?_)
            rintro e w' ⟨r, h1, h2, h3⟩
            refine ⟨r, h1, hide ⟨fun hmj => h2 ?_, h3⟩⟩
            have h4 := (unhide HJ2).2.1
            rw [← hmj, List.getElem?_eq_getElem hml] at h4
            injection h4 with h4
            exact h4.symm
          clear hcall
          go_wp2_with fail
          refine (unhide HC).mono ?_
          rintro e w8 ⟨r, rfl, HE⟩
          clear HC cm
          cases r with
          | true =>
            go_wp2
            go_ret
            exact ⟨rfl, (((unhide HA).trans (unhide HJ2).2.2 (fun _ _ t => t)).trans (unhide HW) (fun _ _ t => t)).trans (unhide HE).2 (fun _ _ t => t)⟩
          | false =>
            have hne : m ≠ j := fun t => by have := (unhide HE).1 t; cases this
            go_wp2
            exact ⟨⟨m + 1, by omega, by omega, by go_num, hide ((unhide HW).trans (unhide HE).2 (fun _ _ t => t))⟩, by simp [intOf]; omega⟩

end Go.Proofs.YtjkghgcdkfkekaaGreatDoor

