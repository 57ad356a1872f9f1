import Derived.Test.YtjkghgcdkfkekaaGreatDoorQXD
/- Contracts: a queue's Len, Acked, Last, Sync, Put, Ack. -/
namespace Go.Proofs.YtjkghgcdkfkekaaGreatDoor
open Go.RowKit

section
variable {w : World} {R : Nat → Nat} {O : Nat → Prop} {hp b p l qb n lim : Nat} {d : Dk} {G h a : Nat} {rs : List Bs} {s num : Nat} {q : Qr} {dead : Bool}

set_option maxRecDepth 20000 in
theorem QM.len (Q : QM w R O qb l lim dead q) : Calls Tryz.prog 29 #[.pointer (some ⟨qb, 0, none⟩)] w fun e w' => e = .returned (.int .i64 (q.items.length : Int)) ∧ w' = w := by
  obtain ⟨io, cap, g, off, hb, hI⟩ := Q.box
  have c1 : w.cell? ⟨qb, 1, none⟩ = some (.slice io q.items.length cap) := hb.cell 1
  clear Q hb hI
  go_enter Tryz.func29, Tryz.ntmps29
  go_wp2
  go_ret
  exact ⟨rfl, rfl⟩

set_option maxRecDepth 20000 in
theorem QM.acked (Q : QM w R O qb l lim dead q) : Calls Tryz.prog 32 #[.pointer (some ⟨qb, 0, none⟩)] w fun e w' => e = .returned (.int .i64 (q.acked : Int)) ∧ w' = w := by
  obtain ⟨io, cap, g, off, hb, hI⟩ := Q.box
  have c0 : w.cell? ⟨qb, 0, none⟩ = some (.int .i64 (q.acked : Int)) := hb.cell 0
  clear Q hb hI
  go_enter Tryz.func32, Tryz.ntmps32
  go_wp2
  go_ret
  exact ⟨rfl, rfl⟩

set_option maxRecDepth 20000 in
theorem QM.last (Q : QM w R O qb l lim dead q) (hok : q.Ok lim) : Calls Tryz.prog 31 #[.pointer (some ⟨qb, 0, none⟩)] w fun e w' => e = .returned (.int .i64 (q.last : Int)) ∧ Fr (fun _ => False) w w' := by
  obtain ⟨io, cap, g, off, hb, hI⟩ := Q.box
  have c0 : w.cell? ⟨qb, 0, none⟩ = some (.int .i64 (q.acked : Int)) := hb.cell 0
  have c1 : w.cell? ⟨qb, 1, none⟩ = some (.slice io q.items.length cap) := hb.cell 1
  have hl := hok.last
  have hle : q.last = q.acked + q.items.length := rfl
  have QL := hide (qlast_any w q.acked q.items.length io cap (by omega))
  rw [← hle] at QL
  clear Q hb hI hl hle
  generalize q.last = la at *
  go_enter Tryz.func31, Tryz.ntmps31
  go_wp2_with fail
  refine (unhide QL).mono ?_
  rintro e w1 ⟨rfl, hF⟩
  have HF := hide hF
  clear hF
  go_wp2
  go_ret
  exact ⟨rfl, unhide HF⟩

/-- What a call on a dead queue answers. -/
theorem qsync_dead (w : World) (qb : Nat) (cs : Array Value) (T : TypeId) (hb : Bx w qb cs T) (h3 : cs[3]? = some (.bool true)) : Calls Tryz.prog 21 #[.pointer (some ⟨qb, 0, none⟩)] w fun e w' => e = .returned (errV 101) ∧ w' = w := by
  have c3 : w.cell? ⟨qb, 3, none⟩ = some (.bool true) := (hb.cell 3).trans h3
  clear hb h3
  go_enter Tryz.func21, Tryz.ntmps21
  go_wp2
  go_ret
  exact ⟨rfl, rfl⟩

set_option maxRecDepth 20000 in
theorem qput_dead (w : World) (qb : Nat) (cs : Array Value) (T : TypeId) (hb : Bx w qb cs T) (h3 : cs[3]? = some (.bool true)) (bo : Option Addr) (bn bc : Nat) : Calls Tryz.prog 23 #[.pointer (some ⟨qb, 0, none⟩), .slice bo bn bc] w fun e w' => e = .returned (.tuple #[.int .i64 0, errV 101]) ∧ w' = w := by
  have c3 : w.cell? ⟨qb, 3, none⟩ = some (.bool true) := (hb.cell 3).trans h3
  clear hb h3
  go_enter Tryz.func23, Tryz.ntmps23
  go_wp2
  go_ret2
  exact ⟨rfl, rfl⟩

/-- What a sync of a queue leaves. -/
def SyncRet (w : World) (R : Nat → Nat) (O : Nat → Prop) (hp b p l qb n lim : Nat) (d : Dk) (G h a : Nat) (rs : List Bs) (num : Nat) (q : Qr) (Tl : List Bs → Nat → Prop) (e : Ending) (w' : World) : Prop :=
  ∃ (fail : Bool) (d' : Dk) (R' : Nat → Nat), e = .returned (if fail then errV 5 else .nilIface) ∧ UpR w R R' ∧ Fr (fun k => R k ≠ 0 ∨ O k) w w' ∧ Dn w' R' hp b n d' ∧ Stp d d' fail 2 ∧ Fnd n d' G Tl ∧ (d.armed = false → fail = false) ∧
    (fail = true → ∃ cs, Bx w' qb cs 120 ∧ cs[3]? = some (.bool true) ∧ R' qb = 0) ∧ (fail = false → LQ w' R' O hp b p l qb n lim d' G h a rs rs.length num q ∧ d'.wait = [])

set_option maxRecDepth 20000 in
theorem LQ.sync (L : LQ w R O hp b p l qb n lim d G h a rs s num q) (hpot : d.pot + 600000 < 576460752303423488) (Tl : List Bs → Nat → Prop) (hTl : Tl rs s) :
    Calls Tryz.prog 21 #[.pointer (some ⟨qb, 0, none⟩)] w (SyncRet w R O hp b p l qb n lim d G h a rs num q Tl) := by
  obtain ⟨io, cap, g, off, hb, hI⟩ := L.qm.box
  have c3 : w.cell? ⟨qb, 3, none⟩ = some (.bool false) := hb.cell 3
  have JS := jsync_any L.ls hpot Tl hTl L.sle qb _ _ hb (L.qm.own qb L.qm.oq).2.1 rfl _ rfl (L.qm.own qb L.qm.oq).2.2
  have HJ := hide (JS.mono (R' := fun e w' => ∃ ev, e = .returned ev ∧ Hid (SyncRet w R O hp b p l qb n lim d G h a rs num q Tl (.returned ev) w')) (by
    rintro e w' ⟨fail, d', R', he, u1, f1, D1, b1, st, fnd, ar, l1⟩
    refine ⟨_, he, hide ⟨fail, d', R', rfl, u1, f1.mono (fun k _ t => t.imp id (fun e => by rw [e]; exact L.qm.oq)), D1, st, fnd, ar, fun hf => ⟨_, b1, by rw [hf]; rfl, by rw [u1 qb hb.lt]; exact (L.qm.own qb L.qm.oq).2.1⟩, fun hf => ?_⟩⟩
    subst hf
    refine ⟨⟨(l1 rfl).1, ⟨⟨io, cap, g, off, b1, hI.frame f1 (fun k hk t => ?_)⟩, L.qm.oq, fun k hk => ⟨Nat.lt_of_lt_of_le (L.qm.own k hk).1 f1.size, by rw [u1 k (L.qm.own k hk).1]; exact (L.qm.own k hk).2.1, (L.qm.own k hk).2.2⟩⟩, L.told, L.ok, Nat.le_refl _⟩, (l1 rfl).2⟩
    rcases t with t | t
    · exact t (L.qm.own k hk.1).2.1
    · exact hk.2 t))
  clear JS L hb hI hTl hpot
  go_enter Tryz.func21, Tryz.ntmps21
  go_wp2_with fail
  refine (unhide HJ).mono ?_
  rintro e w1 ⟨ev, rfl, HS⟩
  obtain ⟨fl, hfl⟩ : ∃ fl : Bool, ev = (if fl = true then errV 5 else Value.nilIface) := by
    obtain ⟨fail, d', R', he, _⟩ := unhide HS
    exact ⟨fail, by injection he⟩
  clear HJ
  subst hfl
  cases fl
  all_goals
    go_wp2
    go_ret
    exact unhide HS

/-- Which error a put has; 0: none. -/
def putE (q : Qr) (lim : Nat) (bs : Bs) : Int := if 256 < bs.length then 2 else if lim ≤ q.items.length then 4 else if 4294967295 ≤ q.last then 3 else 0

set_option maxHeartbeats 400000 in
set_option maxRecDepth 20000 in
theorem LQ.putNo (L : LQ w R O hp b p l qb n lim d G h a rs s num q) (bo : Option Addr) (bc : Nat) (bs : Bs) (hB : BAt w bo bc bs) (hE : putE q lim bs ≠ 0) :
    Calls Tryz.prog 23 #[.pointer (some ⟨qb, 0, none⟩), .slice bo bs.length bc] w fun e w' => e = .returned (.tuple #[.int .i64 0, errV (putE q lim bs)]) ∧ Fr (fun _ => False) w w' := by
  obtain ⟨io, cap, g, off, hb, hI⟩ := L.qm.box
  have c0 : w.cell? ⟨qb, 0, none⟩ = some (.int .i64 (q.acked : Int)) := hb.cell 0
  have c1 : w.cell? ⟨qb, 1, none⟩ = some (.slice io q.items.length cap) := hb.cell 1
  have c3 : w.cell? ⟨qb, 3, none⟩ = some (.bool false) := hb.cell 3
  have c4 : w.cell? ⟨qb, 4, none⟩ = some (.int .i64 (lim : Int)) := hb.cell 4
  have hlast := L.ok.last
  have hle : q.last = q.acked + q.items.length := rfl
  have hsm := hB.2.2
  have QL := fun u => hide (qlast_any u q.acked q.items.length io cap (by omega))
  rw [← hle] at QL
  have HS : Hid (∀ w', Fr (fun _ => False) w w' → w'.cell? ⟨qb, 1, none⟩ = some (.slice io q.items.length cap) ∧ w'.cell? ⟨qb, 4, none⟩ = some (.int .i64 (lim : Int))) := hide (fun w' hf => ⟨(hb.keep hf).cell 1, (hb.keep hf).cell 4⟩)
  have HC : Hid (∀ w', Fr (fun _ => False) w w' → w'.cell? ⟨qb, 0, none⟩ = some (.int .i64 (q.acked : Int)) ∧ w'.cell? ⟨qb, 1, none⟩ = some (.slice io q.items.length cap)) := hide (fun w' hf => ⟨(hb.keep hf).cell 0, (hb.keep hf).cell 1⟩)
  unfold putE at hE ⊢
  clear L hb hI hB
  by_cases h1 : 256 < bs.length
  · rw [if_pos h1]
    have h1I : (256 : Int) < (bs.length : Int) := by omega
    clear h1 hE
    go_enter Tryz.func23, Tryz.ntmps23
    go_wp2
    go_ret2
    exact ⟨rfl, Fr.refl _ _⟩
  · have h1I : (bs.length : Int) ≤ 256 := by omega
    rw [if_neg h1] at hE ⊢
    clear h1
    by_cases h2 : lim ≤ q.items.length
    · rw [if_pos h2]
      have h2I : decide ((q.items.length : Int) ≥ (lim : Int)) = true := by simp; omega
      have h2d : decide (lim ≤ q.items.length) = true := by simp; omega
      clear hE h2
      go_enter Tryz.func23, Tryz.ntmps23
      go_wp2
      go_region_held3 (fun w' => w'.cell? ⟨qb, 1, none⟩ = some (.slice io q.items.length cap) ∧ w'.cell? ⟨qb, 4, none⟩ = some (.int .i64 (lim : Int))) (first | exact unhide HS _ (Fr.refl _ _) | exact unhide HS _ ((Fr.refl _ _).drew)) (fail)
      go_wp2
      go_ret2
      exact ⟨rfl, (Fr.refl _ _).drew⟩
    · rw [if_neg h2] at hE ⊢
      have h2I : decide ((q.items.length : Int) ≥ (lim : Int)) = false := by simp; omega
      have h2d : decide (lim ≤ q.items.length) = false := by simp; omega
      by_cases h3 : 4294967295 ≤ q.last
      · rw [if_pos h3]
        have h3I : (4294967295 : Int) ≤ (q.last : Int) := by omega
        clear hE h2 h3
        generalize q.last = la at *
        clear hle
        go_enter Tryz.func23, Tryz.ntmps23
        go_wp2
        go_region_held3 (fun w' => w'.cell? ⟨qb, 1, none⟩ = some (.slice io q.items.length cap) ∧ w'.cell? ⟨qb, 4, none⟩ = some (.int .i64 (lim : Int))) (first | exact unhide HS _ (Fr.refl _ _) | exact unhide HS _ ((Fr.refl _ _).drew)) (fail)
        go_wp2_with fail
        refine (unhide (QL _)).mono ?_
        rintro e w1 ⟨rfl, hF⟩
        have HF := hide (((Fr.refl (fun _ => False) w).drew).trans hF (fun _ _ t => t))
        clear hF
        go_wp2
        go_ret2
        exact ⟨rfl, unhide HF⟩
      · rw [if_neg h3] at hE; exact absurd rfl hE

theorem DoPost.whence {w2 : World} {q' : Qr} {Tl : List Bs → Nat → Prop} {fail : Bool} {w' : World} (hF : Fr (fun _ => False) w w2) (P : DoPost w2 R (fun k => O k ∨ (w.heap.size ≤ k ∧ k < w2.heap.size)) hp b p l qb n lim d G num q' Tl fail w') : DoPost w R O hp b p l qb n lim d G num q' Tl fail w' := by
  obtain ⟨d', R', u1, f1, D1, st, fnd, ar, k1, k2⟩ := P
  refine ⟨d', R', fun k hk => u1 k (Nat.lt_of_lt_of_le hk hF.size), (hF.mono (fun _ _ t => t.elim)).trans f1 (fun k hk t => t.imp id (fun t => t.elim id (fun t => by omega))), D1, st, fnd, ar, k1, fun h0 => ?_⟩
  obtain ⟨G', h', a', rs', s', num', O', e1, e2, e3, e4, e5⟩ := k2 h0
  refine ⟨G', h', a', rs', s', num', O', e1, e2, e3, e4, fun k hk t => ?_⟩
  rcases e5 k (Nat.lt_of_lt_of_le hk hF.size) t with t | t
  · exact t
  · omega

theorem DoPost.keep {q' : Qr} {Tl : List Bs → Nat → Prop} {fail : Bool} {w' w'' : World} (P : DoPost w R O hp b p l qb n lim d G num q' Tl fail w') (hF : Fr (fun _ => False) w' w'') : DoPost w R O hp b p l qb n lim d G num q' Tl fail w'' := by
  obtain ⟨d', R', u1, f1, D1, st, fnd, ar, k1, k2⟩ := P
  refine ⟨d', R', u1, f1.trans hF (fun _ _ t => t.elim), D1.keep hF, st, fnd, ar, fun h0 => ?_, fun h0 => ?_⟩
  · obtain ⟨cs, e1, e2, e3⟩ := k1 h0
    exact ⟨cs, e1.keep hF, e2, e3⟩
  · obtain ⟨G', h', a', rs', s', num', O', e1, e2, e3, e4, e5⟩ := k2 h0
    exact ⟨G', h', a', rs', s', num', O', e1, e2, e3.keep hF, e4, e5⟩

/-- What a put leaves. -/
def PutRet (w : World) (R : Nat → Nat) (O : Nat → Prop) (hp b p l qb n lim : Nat) (d : Dk) (G num : Nat) (q' : Qr) (Tl : List Bs → Nat → Prop) (e : Ending) (w' : World) : Prop :=
  ∃ fail : Bool, e = .returned (if fail then .tuple #[.int .i64 0, errV 5] else .tuple #[.int .i64 (q'.last : Int), .nilIface]) ∧ DoPost w R O hp b p l qb n lim d G num q' Tl fail w'

set_option maxHeartbeats 600000 in
set_option maxRecDepth 20000 in
theorem LQ.putOk (L : LQ w R O hp b p l qb n lim d G h a rs s num q) (hl : Lim lim n) (hpot : d.pot + 180 * hlf n + 600000 < 576460752303423488) (hG : G ≤ 150000000000000) (hnum : num < 4611686018427387904) (bo : Option Addr) (bc : Nat) (bs : Bs) (hB : BAt w bo bc bs) (hE : putE q lim bs = 0)
    (Tl : List Bs → Nat → Prop) (t1 : Tl rs s) (t2 : Tl (rs ++ [qraw 2 (q.last + 1) bs]) s) (t3 : Tl (qrecs ⟨q.acked, q.items ++ [bs]⟩) (qrecs ⟨q.acked, q.items ++ [bs]⟩).length) :
    Calls Tryz.prog 23 #[.pointer (some ⟨qb, 0, none⟩), .slice bo bs.length bc] w (PutRet w R O hp b p l qb n lim d G num ⟨q.acked, q.items ++ [bs]⟩ Tl) := by
  have hE' : bs.length ≤ 256 ∧ q.items.length < lim ∧ q.last < 4294967295 := by
    unfold putE at hE
    split at hE
    · cases hE
    · split at hE
      · cases hE
      · split at hE
        · cases hE
        · omega
  obtain ⟨x1, x2, x3⟩ := hE'
  obtain ⟨p1, p2, p3, p4⟩ := Qr.put_ok L.ok hl.le bs x1 x2 x3
  obtain ⟨io, cap, g, off, hb, hI⟩ := L.qm.box
  have c0 : w.cell? ⟨qb, 0, none⟩ = some (.int .i64 (q.acked : Int)) := hb.cell 0
  have c1 : w.cell? ⟨qb, 1, none⟩ = some (.slice io q.items.length cap) := hb.cell 1
  have c3 : w.cell? ⟨qb, 3, none⟩ = some (.bool false) := hb.cell 3
  have c4 : w.cell? ⟨qb, 4, none⟩ = some (.int .i64 (lim : Int)) := hb.cell 4
  have hle : q.last = q.acked + q.items.length := rfl
  have QL : Hid (∀ u, Calls Tryz.prog 54 #[.agg #[.int .i64 (q.acked : Int), .slice io q.items.length cap]] u fun e w' => e = .returned (.int .i64 (q.last : Int)) ∧ Fr (fun _ => False) u w') := hide (fun u => by rw [hle]; exact qlast_any u q.acked q.items.length io cap (by omega))
  have HS : Hid (∀ w', Fr (fun _ => False) w w' → w'.cell? ⟨qb, 1, none⟩ = some (.slice io q.items.length cap) ∧ w'.cell? ⟨qb, 4, none⟩ = some (.int .i64 (lim : Int))) := hide (fun w' hf => ⟨(hb.keep hf).cell 1, (hb.keep hf).cell 4⟩)
  have HC : Hid (∀ w', Fr (fun _ => False) w w' → w'.cell? ⟨qb, 0, none⟩ = some (.int .i64 (q.acked : Int)) ∧ w'.cell? ⟨qb, 1, none⟩ = some (.slice io q.items.length cap)) := hide (fun w' hf => ⟨(hb.keep hf).cell 0, (hb.keep hf).cell 1⟩)
  have hqlt := hb.lt
  have h1I : (bs.length : Int) ≤ 256 := by omega
  have h2I : decide ((q.items.length : Int) ≥ (lim : Int)) = false := by simp; omega
  have h2d : decide (lim ≤ q.items.length) = false := by simp; omega
  have h3I : (q.last : Int) < 4294967295 := by omega
  have CL : Hid (∀ u, Fr (fun _ => False) w u → Calls Tryz.prog 56 #[.slice bo bs.length bc] u fun e w' => ∃ vo vc gv, e = .returned (.slice vo bs.length vc) ∧ Hid (Row w' (.slice vo bs.length vc) gv bs ∧ Fr (fun _ => False) w w' ∧ w.heap.size ≤ gv)) := hide (fun u hu => by
    refine (sclone_any u bo bc bs (hB.later hu)).mono ?_
    rintro e w' ⟨v, rfl, gv, h1, h2, h3⟩
    obtain ⟨vo, vc, rfl, hjk⟩ := h1.shape
    exact ⟨vo, vc, gv, rfl, hide ⟨h1, hu.trans h2 (fun _ _ t => t), Nat.le_trans hu.size h3⟩⟩)
  have HDO : Hid (∀ u vo vc gv, Fr (fun _ => False) w u → Row u (.slice vo bs.length vc) gv bs → w.heap.size ≤ gv → Calls Tryz.prog 55 #[.pointer (some ⟨qb, 0, none⟩), .agg #[.int .i64 2, .int .i64 ((q.last : Int) + 1), .slice vo bs.length vc]] u fun e w' => ∃ (fail : Bool) (ev : Value), e = .returned ev ∧ Hid (ev = (if fail then errV 5 else .nilIface)) ∧ Hid (DoPost w R O hp b p l qb n lim d G num ⟨q.acked, q.items ++ [bs]⟩ Tl fail w')) := by
    refine hide (fun u vo vc gv hu hrow hgv => ?_)
    have Lu := L.grow hu
    have hx := (row_iel (E := fun k => (O k ∨ (w.heap.size ≤ k ∧ k < u.heap.size)) ∧ k ≠ qb ∨ bs.length = 0) hrow (by omega) (by
      rcases Nat.eq_zero_or_pos bs.length with h0 | h0
      · exact .inr h0
      · exact .inl ⟨.inr ⟨hgv, row_lt hrow h0⟩, by omega⟩)).2
    have hx2 : IEl (fun k => (O k ∨ (w.heap.size ≤ k ∧ k < u.heap.size)) ∧ k ≠ qb) u (.slice vo bs.length vc) bs := by
      obtain ⟨ao, cc, e, hbt, hk⟩ := hx
      exact ⟨ao, cc, e, hbt, fun k off h0 e => (hk k off h0 e).elim id (fun t => by omega)⟩
    have hkge : ∀ k off, 0 < bs.length → vo = some ⟨k, off, none⟩ → w.heap.size ≤ k := fun k off h0 e => by
      obtain ⟨ao, cc, e1, q1, q2, q3, q4⟩ := hrow.shape
      injection e1 with e1 e2 e3
      subst e1 e3
      rw [q3 (by omega)] at e
      injection e with e
      injection e with e1 e2
      omega
    have D := do_any Lu hl hpot hG hnum ⟨2, q.last + 1, bs⟩ p1 p2 (by rw [p3]; exact Nat.le_refl _) (by rw [p3]; exact p4) Tl t1 t2 (by rw [p3]; exact t3) vo vc hx2 (fun io2 cap2 g2 off2 r2 cc2 k off h0 e hc => by
      have hge := hkge k off h0 e
      have e2 := (hb.keep hu).cell 1
      rw [cc2] at e2
      simp [qbox] at e2
      obtain ⟨ei, ec⟩ := e2
      obtain ⟨vs, i1, _⟩ := r2.its.ex
      obtain ⟨vs0, i0, _⟩ := hI.its.ex
      have ea := i1.ad hc
      rw [ei, i0.ad (by omega)] at ea
      injection ea with ea
      injection ea with ea1 ea2
      have := hI.its.lt (by omega)
      omega)
    have D' : Calls Tryz.prog 55 #[.pointer (some ⟨qb, 0, none⟩), .agg #[.int .i64 2, .int .i64 ((q.last : Int) + 1), .slice vo bs.length vc]] u _ := D
    refine D'.mono ?_
    rintro e w' ⟨fail, he, P⟩
    rw [p3] at P
    exact ⟨fail, _, he, hide rfl, hide (DoPost.whence hu P)⟩
  have hlastn : (⟨q.acked, q.items ++ [bs]⟩ : Qr).last = q.last + 1 := by simp [Qr.last]; omega
  have HLN := hide hlastn
  clear L hl hpot hG hnum hB hE t1 t2 t3 x1 x2 x3 p1 p2 p3 p4 hb hI hle hlastn
  generalize hq' : (⟨q.acked, q.items ++ [bs]⟩ : Qr) = q' at *
  clear hq'
  generalize q.last = la at *
  have h3d : decide ((la : Int) ≥ 4294967295) = false := by simp; omega
  have h3e : decide (4294967295 ≤ la) = false := by simp; omega
  have hlw : IntKind.i64.wrap ((la : Int) + 1) = (la : Int) + 1 := by rw [IntKind.wrap_i64]; omega
  clear h3I
  go_enter Tryz.func23, Tryz.ntmps23
  go_wp2
  go_region_held3 (fun w' => w'.cell? ⟨qb, 1, none⟩ = some (.slice io q.items.length cap) ∧ w'.cell? ⟨qb, 4, none⟩ = some (.int .i64 (lim : Int))) (first | exact unhide HS _ (Fr.refl _ _) | exact unhide HS _ ((Fr.refl _ _).drew)) (fail)
  go_wp2_with fail
  refine (unhide QL _).mono ?_
  rintro e w1 ⟨rfl, hF1⟩
  have HF1 := hide (((Fr.refl (fun _ => False) w).drew).trans hF1 (fun _ _ t => t))
  obtain ⟨d0, d1⟩ := unhide HC _ (unhide HF1)
  clear hF1
  go_wp2_with fail
  refine (unhide QL _).mono ?_
  rintro e w2 ⟨rfl, hF2⟩
  have HF2 := hide ((unhide HF1).trans hF2 (fun _ _ t => t))
  clear hF2 d0 d1
  go_wp2_with fail
  refine (unhide CL _ (unhide HF2)).mono ?_
  rintro e w3 ⟨vo, vc, gv, rfl, HV⟩
  go_wp2_with fail
  refine (unhide HDO _ vo vc gv (unhide HV).2.1 (unhide HV).1 (unhide HV).2.2).mono ?_
  rintro e w4 ⟨fail, ev, rfl, HEV, HP⟩
  clear HDO CL HS HC QL c0 c1 c3 c4
  obtain ⟨fl, hfl⟩ : ∃ fl : Bool, ev = (if fl = true then errV 5 else Value.nilIface) := ⟨fail, unhide HEV⟩
  subst hfl
  cases fl with
  | true =>
    have hne := run_neq_errV w4 5
    go_wp2
    go_ret2
    have hf : fail = true := by
      have h := unhide HEV
      cases fail with
      | false => exact absurd h (by simp [errV])
      | true => rfl
    subst hf
    exact ⟨true, rfl, unhide HP⟩
  | false =>
    have hf : Hid (fail = false) := by
      have h := unhide HEV
      cases fail with
      | true => exact absurd h (by simp [errV])
      | false => exact hide rfl
    obtain ⟨io2, cap2, k0, k1, k2⟩ : ∃ io2 cap2, w4.cell? ⟨qb, 0, none⟩ = some (.int .i64 (q'.acked : Int)) ∧ w4.cell? ⟨qb, 1, none⟩ = some (.slice io2 q'.items.length cap2) ∧ q'.acked + q'.items.length < 9223372036854775808 := by
      obtain ⟨d', R', u1, f1, D1, st, fnd, ar, j1, j2⟩ := unhide HP
      obtain ⟨G', h', a', rs', s', num', O', e1, e2, e3, e4, e5⟩ := j2 (unhide hf)
      obtain ⟨io2, cap2, g2, off2, hb2, _⟩ := e3.qm.box
      have := e3.ok.last
      have hl2 : q'.last = q'.acked + q'.items.length := rfl
      exact ⟨io2, cap2, hb2.cell 0, hb2.cell 1, by omega⟩
    have QL2 := hide (qlast_any w4 q'.acked q'.items.length io2 cap2 k2)
    clear k2
    go_wp2_with fail
    refine (unhide QL2).mono ?_
    rintro e w5 ⟨rfl, hF5⟩
    have HP5 := hide ((unhide HP).keep hF5)
    clear hF5
    go_wp2
    go_ret2
    refine ⟨fail, ?_, unhide HP5⟩
    rw [unhide hf]; rfl

end

end Go.Proofs.YtjkghgcdkfkekaaGreatDoor

/- Contract: a queue's Ack. -/
namespace Go.Proofs.YtjkghgcdkfkekaaGreatDoor
open Go.RowKit

section
variable {w : World} {R : Nat → Nat} {O : Nat → Prop} {hp b p l qb n lim : Nat} {d : Dk} {G h a : Nat} {rs : List Bs} {s num : Nat} {q : Qr}

set_option maxHeartbeats 400000 in
set_option maxRecDepth 20000 in
theorem LQ.ackNo (L : LQ w R O hp b p l qb n lim d G h a rs s num q) (seq : Int) (hs : seq < 0 ∨ (q.last : Int) < seq) :
    Calls Tryz.prog 44 #[.pointer (some ⟨qb, 0, none⟩), .int .i64 seq] w fun e w' => e = .returned (errV 1) ∧ Fr (fun _ => False) w w' := by
  obtain ⟨io, cap, g, off, hb, hI⟩ := L.qm.box
  have c0 : w.cell? ⟨qb, 0, none⟩ = some (.int .i64 (q.acked : Int)) := hb.cell 0
  have c1 : w.cell? ⟨qb, 1, none⟩ = some (.slice io q.items.length cap) := hb.cell 1
  have c3 : w.cell? ⟨qb, 3, none⟩ = some (.bool false) := hb.cell 3
  have hlast := L.ok.last
  have hle : q.last = q.acked + q.items.length := rfl
  have QL : Hid (∀ u, Calls Tryz.prog 54 #[.agg #[.int .i64 (q.acked : Int), .slice io q.items.length cap]] u fun e w' => e = .returned (.int .i64 (q.last : Int)) ∧ Fr (fun _ => False) u w') := hide (fun u => by rw [hle]; exact qlast_any u q.acked q.items.length io cap (by omega))
  clear L hb hI hlast hle
  generalize q.last = la at *
  by_cases h1 : seq < 0
  · clear hs
    have h1d : decide (seq < 0) = true := decide_eq_true h1
    go_enter Tryz.func44, Tryz.ntmps44
    go_wp2
    go_ret
    exact ⟨rfl, Fr.refl _ _⟩
  · have h2 : (la : Int) < seq := hs.resolve_left h1
    have h1d : decide (seq < 0) = false := decide_eq_false h1
    have h2d : decide ((la : Int) < seq) = true := decide_eq_true h2
    clear hs
    go_enter Tryz.func44, Tryz.ntmps44
    go_wp2_with fail
    refine (unhide QL _).mono ?_
    rintro e w1 ⟨rfl, hF⟩
    have HF := hide hF
    clear hF
    go_wp2
    go_ret
    exact ⟨rfl, unhide HF⟩

set_option maxHeartbeats 400000 in
set_option maxRecDepth 20000 in
theorem LQ.ackNil (L : LQ w R O hp b p l qb n lim d G h a rs s num q) (s' : Nat) (hs : s' ≤ q.acked) :
    Calls Tryz.prog 44 #[.pointer (some ⟨qb, 0, none⟩), .int .i64 (s' : Int)] w fun e w' => e = .returned .nilIface ∧ Fr (fun _ => False) w w' := by
  obtain ⟨io, cap, g, off, hb, hI⟩ := L.qm.box
  have c0 : w.cell? ⟨qb, 0, none⟩ = some (.int .i64 (q.acked : Int)) := hb.cell 0
  have c1 : w.cell? ⟨qb, 1, none⟩ = some (.slice io q.items.length cap) := hb.cell 1
  have c3 : w.cell? ⟨qb, 3, none⟩ = some (.bool false) := hb.cell 3
  have hlast := L.ok.last
  have hle : q.last = q.acked + q.items.length := rfl
  have QL : Hid (∀ u, Calls Tryz.prog 54 #[.agg #[.int .i64 (q.acked : Int), .slice io q.items.length cap]] u fun e w' => e = .returned (.int .i64 (q.last : Int)) ∧ Fr (fun _ => False) u w') := hide (fun u => by rw [hle]; exact qlast_any u q.acked q.items.length io cap (by omega))
  have h1 : ¬ ((q.last : Int) < (s' : Int)) := by omega
  have h1d : decide (q.last < s') = false := by simp; omega
  have h2d : decide (s' ≤ q.acked) = true := by simp; omega
  have h3d : decide ((s' : Int) ≤ (q.acked : Int)) = true := by simp; omega
  have HC : Hid (∀ w', Fr (fun _ => False) w w' → w'.cell? ⟨qb, 0, none⟩ = some (.int .i64 (q.acked : Int))) := hide (fun w' hf => (hb.keep hf).cell 0)
  clear L hb hI hlast hle hs
  generalize q.last = la at *
  go_enter Tryz.func44, Tryz.ntmps44
  go_wp2_with fail
  refine (unhide QL _).mono ?_
  rintro e w1 ⟨rfl, hF⟩
  have e0 := unhide HC _ hF
  have HF := hide hF
  clear hF
  go_wp2
  go_ret
  exact ⟨rfl, unhide HF⟩

set_option maxHeartbeats 600000 in
set_option maxRecDepth 20000 in
theorem LQ.ackOk (L : LQ w R O hp b p l qb n lim d G h a rs s num q) (hl : Lim lim n) (hpot : d.pot + 180 * hlf n + 600000 < 576460752303423488) (hG : G ≤ 140737488355328) (hnum : num < 4611686018427387904) (s' : Nat) (h1 : q.acked < s') (h2 : s' ≤ q.last)
    (Tl : List Bs → Nat → Prop) (t1 : Tl rs s) (t2 : Tl (rs ++ [qraw 3 s' []]) s) (t3 : Tl (qrecs ⟨s', q.items.drop (s' - q.acked)⟩) (qrecs ⟨s', q.items.drop (s' - q.acked)⟩).length) :
    Calls Tryz.prog 44 #[.pointer (some ⟨qb, 0, none⟩), .int .i64 (s' : Int)] w (DoRet w R O hp b p l qb n lim d G num ⟨s', q.items.drop (s' - q.acked)⟩ Tl) := by
  obtain ⟨p1, p2, p3, p4, p5⟩ := Qr.ack_ok L.ok s' h1 h2
  obtain ⟨io, cap, g, off, hb, hI⟩ := L.qm.box
  have c0 : w.cell? ⟨qb, 0, none⟩ = some (.int .i64 (q.acked : Int)) := hb.cell 0
  have c1 : w.cell? ⟨qb, 1, none⟩ = some (.slice io q.items.length cap) := hb.cell 1
  have c3 : w.cell? ⟨qb, 3, none⟩ = some (.bool false) := hb.cell 3
  have hlast := L.ok.last
  have hle : q.last = q.acked + q.items.length := rfl
  have QL : Hid (∀ u, Calls Tryz.prog 54 #[.agg #[.int .i64 (q.acked : Int), .slice io q.items.length cap]] u fun e w' => e = .returned (.int .i64 (q.last : Int)) ∧ Fr (fun _ => False) u w') := hide (fun u => by rw [hle]; exact qlast_any u q.acked q.items.length io cap (by omega))
  have HDO : Hid (∀ u, Fr (fun _ => False) w u → Calls Tryz.prog 55 #[.pointer (some ⟨qb, 0, none⟩), .agg #[.int .i64 3, .int .i64 (s' : Int), .slice none 0 0]] u fun e w' => ∃ (fl : Bool) (ev : Value), e = .returned ev ∧ Hid (ev = (if fl then errV 5 else .nilIface)) ∧ Hid (DoRet w R O hp b p l qb n lim d G num ⟨s', q.items.drop (s' - q.acked)⟩ Tl (.returned ev) w')) := by
    refine hide (fun u hu => ?_)
    have Lu := L.grow hu
    have D := do_any Lu hl hpot (by omega) hnum ⟨3, s', []⟩ p1 p2 (by rw [p3]; show q.acked ≤ s'; omega) (by rw [p3]; exact p4) Tl t1 t2 (by rw [p3]; exact t3) none 0 ⟨none, 0, rfl, ⟨fun _ => ⟨rfl, rfl⟩, fun h => absurd h (by simp), by simp⟩, fun k off h => absurd h (by simp)⟩ (fun _ _ _ _ _ _ _ _ h0 => absurd h0 (by simp))
    have D' : Calls Tryz.prog 55 #[.pointer (some ⟨qb, 0, none⟩), .agg #[.int .i64 3, .int .i64 (s' : Int), .slice none 0 0]] u _ := D
    refine D'.mono ?_
    rintro e w' ⟨fail, he, P⟩
    rw [p3] at P
    exact ⟨fail, _, he, hide rfl, hide ⟨fail, rfl, DoPost.whence hu P⟩⟩
  have h1d : decide (q.last < s') = false := by simp; omega
  have h1n : ¬ ((q.last : Int) < (s' : Int)) := by omega
  have h2d : decide (s' ≤ q.acked) = false := by simp; omega
  have h3d : ¬ ((s' : Int) ≤ (q.acked : Int)) := by omega
  have HC : Hid (∀ w', Fr (fun _ => False) w w' → w'.cell? ⟨qb, 0, none⟩ = some (.int .i64 (q.acked : Int))) := hide (fun w' hf => (hb.keep hf).cell 0)
  clear L hl hpot hG hnum t1 t2 t3 h1 h2 p1 p2 p3 p4 p5 hb hI hlast hle
  generalize q.last = la at *
  generalize (⟨s', q.items.drop (s' - q.acked)⟩ : Qr) = q' at *
  go_enter Tryz.func44, Tryz.ntmps44
  go_wp2_with fail
  refine (unhide QL _).mono ?_
  rintro e w1 ⟨rfl, hF⟩
  have e0 := unhide HC _ hF
  have HF := hide hF
  clear hF
  go_wp2_with fail
  refine (unhide HDO _ (unhide HF)).mono ?_
  rintro e w2 ⟨fl, ev, rfl, HEV, HP⟩
  have hfl := unhide HEV
  clear HDO QL HC HEV
  subst hfl
  cases fl
  all_goals
    go_wp2
    go_ret
    exact unhide HP

end

end Go.Proofs.YtjkghgcdkfkekaaGreatDoor

/- Contract: queue.Open. -/
namespace Go.Proofs.YtjkghgcdkfkekaaGreatDoor
open Go.RowKit

/-- Whatever beginning is found from s records on, it meets OK. -/
def TlOf (OK : List Bs → Prop) (rs : List Bs) (s : Nat) : Prop := ∀ m, s ≤ m → m ≤ rs.length → OK (rs.take m)

theorem TlOf.cut {OK : List Bs → Prop} {rs : List Bs} {s : Nat} (h : TlOf OK rs s) {m : Nat} (h1 : s ≤ m) (h2 : m ≤ rs.length) : TlOf OK (rs.take m) (rs.take m).length := fun k k1 k2 => by
  have hl : (rs.take m).length = m := by simp; omega
  obtain rfl : k = m := by omega
  rw [List.take_take, Nat.min_self]
  exact h k h1 h2
theorem TlOf.mono {OK OK' : List Bs → Prop} {rs : List Bs} {s : Nat} (h : TlOf OK rs s) (hO : ∀ l, OK l → OK' l) : TlOf OK' rs s := fun m h1 h2 => hO _ (h m h1 h2)
theorem Fnd.mono {n : Nat} {d : Dk} {C C' : Nat} {Tl Tl' : List Bs → Nat → Prop} (h : Fnd n d C Tl) (hC : C ≤ C') (hT : ∀ rs s, Tl rs s → Tl' rs s) : Fnd n d C' Tl' := fun sub hs => by
  obtain ⟨G, k, a, rs, s, h1, h2, h3, h4, h5⟩ := h sub hs
  exact ⟨G, k, a, rs, s, by omega, h2, h3, h4, hT _ _ h5⟩

theorem LS.fnd {w : World} {R : Nat → Nat} {hp b p l n : Nat} {d : Dk} {G h a : Nat} {rs : List Bs} {s num : Nat} {Tl : List Bs → Nat → Prop} (L : LS w R hp b p l n d G h a rs s num) (hT : Tl rs s) : Fnd n d G Tl := fun sub hs => by
  have g := L.lg.each sub hs
  rw [L.dn.many] at g
  exact ⟨G, h, a, rs, s, Nat.le_refl _, L.fitn, L.lg.le, g, hT⟩

/-- What opening the log leaves. -/
def WOpen (w : World) (R : Nat → Nat) (hp b p n : Nat) (d : Dk) (OK : List Bs → Prop) (C : Nat) (e : Ending) (w' : World) : Prop :=
  ∃ (fail : Bool) (d' : Dk) (R' : Nat → Nat), UpR w R R' ∧ Fr (fun k => R k ≠ 0) w w' ∧ Dn w' R' hp b n d' ∧ Stp d d' fail (180 * hlf n + 6) ∧ Fnd n d' C (TlOf OK) ∧ (d.armed = false → fail = false) ∧
    (fail = true → e = .returned (.tuple #[.pointer none, .slice none 0 0, errV 5])) ∧
    (fail = false → ∃ lg ro rc G' h' a' l', e = .returned (.tuple #[.pointer (some ⟨lg, 0, none⟩), .slice ro l'.length rc, .nilIface]) ∧ G' ≤ C ∧ LS w' R' hp b p lg n d' G' h' a' l' l'.length 1 ∧ RecsP (fun k => w.heap.size ≤ k ∧ R' k = 0) w' ro rc l' ∧ OK l')

section
variable {w : World} {R : Nat → Nat} {hp b p n lim : Nat} {d : Dk} {OK : List Bs → Prop} {C : Nat}

theorem wopen_re (D : Dn w R hp b n d) (hk : Dsk w R p b n) (up : d.down = false) (hw : d.wait = []) (h4 : 4 ≤ n) (hm : n ≤ 1048576) (hpot : d.pot + 180 * hlf n + 600000 < 576460752303423488) (f : Fnd n d C (TlOf OK)) (hC : C ≤ 140737488355328) :
    Calls Tryz.prog 10 #[.pointer (some ⟨p, 0, none⟩)] w (WOpen w R hp b p n d OK (C + 1 + hlf n)) := by
  obtain ⟨G, h, a, rs, s, k1, k2, k3, k4, k5⟩ := f [] (List.nil_sublist _)
  have hlook : d.look = over d.safe [] := by rw [Dk.look, hw]
  have g : Gd n d.look G h a rs s := by rw [hlook]; exact k4
  refine (D.reopen hk up h4 hm hpot (by have := hlf_bd n h4 hm; rw [hw]; simp; omega) g (by omega) k2 k3).mono ?_
  rintro e w' ⟨r, R', G', m, g1, g2, m1, m2, hr, u1, f1, D1, fn, e1, e2⟩
  have hfm := strm_take_fit rs m (hlf n) m2 k2
  have ff := Dk.run_flags (anewActs (2 + (1 - h) * hlf n) G' (rs.take m) (1 - a) (hsec G' (1 - h))) d
  have fp := Dk.run_pot (anewActs (2 + (1 - h) * hlf n) G' (rs.take m) (1 - a) (hsec G' (1 - h))) d
  have hn := nputs_hlf (rs.take m) (hlf n) hfm
  rw [← hr] at ff fp
  rw [anewActs_length] at fp
  refine ⟨r.2, r.1, R', u1, f1, D1, ⟨ff.2.1, ff.2.2, by omega⟩, fun sub hs => ?_, fun ha => by rw [hr]; exact Dk.run_free _ d ha, e1, fun h0 => ?_⟩
  · rcases fn sub hs with o | gd
    · have := o.gd (G := G) (a := a) (rs := rs) (s := s) (fun sub hs => by rw [hw] at hs; rw [List.eq_nil_of_sublist_nil hs, D.many]; exact k4)
      rw [D.many] at this
      exact ⟨G, h, a, rs, s, by omega, k2, k3, this, k5⟩
    · exact ⟨G', 1 - h, 1 - a, rs.take m, (rs.take m).length, by omega, hfm, Nat.le_refl _, gd, k5.cut m1 m2⟩
  · obtain ⟨lg, ro, rc, i1, i2, i3, i4⟩ := e2 h0
    exact ⟨lg, ro, rc, G', 1 - h, 1 - a, rs.take m, i1, by omega, i2, i4, k5 m m1 m2⟩

theorem wopen_first (D : Dn w R hp b n d) (hk : Dsk w R p b n) (ha : d.armed = false) (up : d.down = false) (h4 : 4 ≤ n) (hm : n ≤ 1048576) (hpot : d.pot + 180 * hlf n + 600000 < 2199023255552) (hz : hold d.look = (0, 1, 1)) (hOK : OK []) :
    Calls Tryz.prog 10 #[.pointer (some ⟨p, 0, none⟩)] w (WOpen w R hp b p n d OK (1 + hlf n)) := by
  refine (D.open hk up h4 hm (by omega) (by have hpe : d.pot = d.cnt + d.wait.length := rfl; omega) hz (by omega)).mono ?_
  rintro e w' ⟨r, R', G', l', g1, g2, q1, q2, hr, u1, f1, D1, fn, e1, e2⟩
  obtain rfl := q1 rfl
  have h0 : r.2 = false := by rw [hr]; exact Dk.run_free _ d ha
  have ff := Dk.run_flags (anewActs (2 + (1 - 1) * hlf n) G' [] (1 - 1) (hsec G' (1 - 1))) d
  have fp := Dk.run_pot (anewActs (2 + (1 - 1) * hlf n) G' [] (1 - 1) (hsec G' (1 - 1))) d
  rw [← hr] at ff fp
  rw [anewActs_length] at fp
  have hn : nputs [] ([] : List Bs).length = 0 := rfl
  obtain ⟨lg, ro, rc, i1, i2, i3, i4⟩ := e2 h0
  have hT : TlOf OK [] 0 := fun m _ h2 => by
    obtain rfl : m = 0 := by simpa using h2
    exact hOK
  refine ⟨r.2, r.1, R', u1, f1, D1, ⟨ff.2.1, ff.2.2, by omega⟩, (i2.fnd hT).mono (by omega) (fun _ _ t => t), fun _ => h0, e1, fun _ => ⟨lg, ro, rc, G', _, _, [], i1, by omega, i2, i4, hOK⟩⟩

/-- What opening a queue leaves. -/
def QOpen (w : World) (R : Nat → Nat) (hp b p n lim : Nat) (d : Dk) (OK : List Bs → Prop) (C : Nat) (e : Ending) (w' : World) : Prop :=
  ∃ (fail : Bool) (d' : Dk) (R' : Nat → Nat), UpR w R R' ∧ Fr (fun k => R k ≠ 0) w w' ∧ Dn w' R' hp b n d' ∧ Stp d d' fail (180 * hlf n + 6) ∧ Fnd n d' C (TlOf OK) ∧ (d.armed = false → fail = false) ∧
    (fail = true → e = .returned (.tuple #[.pointer none, errV 5])) ∧
    (fail = false → ∃ qb l G' h' a' rs' q O, e = .returned (.tuple #[.pointer (some ⟨qb, 0, none⟩), .nilIface]) ∧ G' ≤ C ∧ LQ w' R' O hp b p l qb n lim d' G' h' a' rs' rs'.length 1 q ∧ OK rs' ∧ ∀ k, O k → w.heap.size ≤ k)

set_option maxHeartbeats 600000 in
set_option maxRecDepth 20000 in
theorem qopen_of (hk : Dsk w R p b n) (hl : Lim lim n) (hOK : ∀ l, OK l → ∃ q, qOf l = some q ∧ q.Ok lim) (h4 : 1 < w.heap.size) (HO : Calls Tryz.prog 10 #[.pointer (some ⟨p, 0, none⟩)] w (WOpen w R hp b p n d OK C)) :
    Calls Tryz.prog 26 #[.pointer (some ⟨p, 0, none⟩), .int .i64 (lim : Int)] w (QOpen w R hp b p n lim d OK C) := by
  have SE := sectors_any w R p b n hk
  have QS := qsec_any w (lim : Int)
  have hmay : mayQ (lim : Int) = true := by have h1 := hl.one; have h2 := hl.le; simp [mayQ]; omega
  rw [qsecF, hmay, if_pos rfl, Int.toNat_natCast] at QS
  have hsec := hl.sec
  have hmax := hl.max
  have s1 : ¬ ((2 : Int) + 2 * (qH lim : Int) = 0) := by omega
  have s2 : ¬ ((n : Int) < 2 + 2 * (qH lim : Int)) := by omega
  have s3 : ¬ ((1048576 : Int) < (n : Int)) := by omega
  obtain ⟨sc, hsc⟩ : ∃ x : Int, x = 2 + 2 * (qH lim : Int) := ⟨_, rfl⟩
  rw [← hsc] at QS s1 s2
  have s1d : (sc == 0) = false := by simpa using s1
  have s2d : decide ((n : Int) < sc) = false := decide_eq_false s2
  have s3d : decide (1048576 < n) = false := by simp; omega
  have HS := hide (And.intro SE QS)
  have HW := hide HO
  have HH := hide (And.intro hl (And.intro hOK h4))
  have hlI : (lim : Int) ≤ 4096 := by have := hl.le; omega
  clear SE QS HO hsec hmax hsc hmay hk hl hOK h4
  go_enter Tryz.func26, Tryz.ntmps26
  go_wp2_with fail
  refine (unhide HS).2.mono ?_
  rintro e w1 ⟨rfl, rfl⟩
  go_wp2_with fail
  refine (unhide HS).1.mono ?_
  rintro e w1 ⟨rfl, rfl⟩
  go_wp2_with fail
  refine (unhide HS).1.mono ?_
  rintro e w1 ⟨rfl, rfl⟩
  go_wp2_with fail
  refine (unhide HW).mono ?_
  rintro e w2 ⟨fl, d', R', u1, f1, D1, st, fnd, ar, e1, e2⟩
  have HX := hide (And.intro u1 (And.intro f1 (And.intro D1 (And.intro st (And.intro fnd ar)))))
  clear HW HS u1 f1 D1 st fnd ar
  cases fl with
  | true =>
    obtain rfl := e1 rfl
    clear e1 e2
    have I1 := hide (is_otherK w2 5 90 (by decide))
    have hne := run_neq_errV w2 5
    go_wp2_with fail
    refine (unhide I1).mono ?_
    rintro e w3 ⟨rfl, rfl⟩
    go_wp2
    go_ret2
    obtain ⟨u1, f1, D1, st, fnd, ar⟩ := unhide HX
    exact ⟨true, d', R', u1, f1, D1, st, fnd, ar, fun _ => rfl, fun h => by cases h⟩
  | false =>
    obtain ⟨lg, ro, rc, G', h', a', l', rfl, hG, LS2, hrec, hok⟩ := e2 rfl
    obtain ⟨hl, hOK, h4⟩ := unhide HH
    obtain ⟨q, hq, hqok⟩ := hOK l' hok
    have RO := rowOf_any w2 _ ro rc l' hrec
    have I1 := hide (is_nilK w2 90)
    have HY := hide (And.intro RO (And.intro hG (And.intro LS2 (And.intro hok (And.intro hq hqok)))))
    clear RO hG LS2 hok hq hqok e1 e2 hl hOK h4 hrec
    go_wp2_with fail
    refine (unhide I1).mono ?_
    rintro e w2 ⟨rfl, rfl⟩
    go_wp2_with fail
    refine (unhide HY).1.mono ?_
    rintro e w3 ⟨hF3, hm⟩
    rw [(unhide HY).2.2.2.2.1] at hm
    obtain ⟨io, cap, g, off, rfl, hI⟩ := hm
    have hlen : decide (lim < q.items.length) = false := by have := (unhide HY).2.2.2.2.2.many; simp; omega
    have HZ := hide (And.intro hF3 hI)
    clear hF3 hI I1
    go_wp2
    go_ret2
    obtain ⟨u1, f1, D1, st, fnd, ar⟩ := unhide HX
    obtain ⟨_, hG, LS2, hok, hq, hqok⟩ := unhide HY
    obtain ⟨hF3, hI⟩ := unhide HZ
    obtain ⟨hl, hOK, h4⟩ := unhide HH
    have hF5 : Fr (fun _ => False) w2 ((w3.alloc (.cells #[.int .i64 (q.acked : Int), .slice io q.items.length cap] 118)).alloc (.cells (qbox q.acked io q.items.length cap lg false lim) 120)) := (hF3.alloc _).alloc _
    have hbq := Bx.new (w3.alloc (.cells #[.int .i64 (q.acked : Int), .slice io q.items.length cap] 118)) (qbox q.acked io q.items.length cap lg false lim) 120
    simp only [heap_alloc] at hbq
    have hz := LS2.dn.dk.zero
    have hsz := hF3.size
    refine ⟨false, d', R', u1, f1.trans hF5 (fun _ _ t => t.elim), D1.keep hF5, st, fnd, fun _ => rfl, fun h => absurd h (by decide), fun _ => ⟨w3.heap.size + 1, lg, G', h', a', l', q, fun k => w2.heap.size ≤ k ∧ k < w3.heap.size + 2, rfl, hG, ⟨LS2.keep hF5, ⟨⟨io, cap, g, off, hbq, ?_⟩, ⟨by omega, by omega⟩, fun k hk => ⟨by simp; omega, hz k hk.1, by have := f1.size; omega⟩⟩, hq, hqok, Nat.le_refl _⟩, hok, fun k hk => Nat.le_trans f1.size hk.1⟩⟩
    have hI5 := (hI.mono (F' := fun k => w2.heap.size ≤ k ∧ k < w3.heap.size) (fun k hk t => ⟨t, hk⟩)).keep (((Fr.refl (fun _ => False) w3).alloc (.cells #[.int .i64 (q.acked : Int), .slice io q.items.length cap] 118)).alloc (.cells (qbox q.acked io q.items.length cap lg false lim) 120))
    exact hI5.mono (fun k _ t => ⟨⟨t.1, by omega⟩, by omega⟩)

end

end Go.Proofs.YtjkghgcdkfkekaaGreatDoor

