import Derived.Test.YtjkghgcdkfkekaaGreatDoorQXC
/- Contracts: a queue's journal (notice, sync, note). -/
namespace Go.Proofs.YtjkghgcdkfkekaaGreatDoor
open Go.RowKit

set_option maxRecDepth 20000 in
theorem qnotice_nil (w : World) (qb : Nat) (cs : Array Value) (T : TypeId) (hb : Bx w qb cs T) (v : Value) (hv : cs[3]? = some v) : Calls Tryz.prog 74 #[.pointer (some ⟨qb, 2, none⟩), .nilIface] w fun e w' => e = .returned .nilIface ∧ w' = w.setCell ⟨qb, 3, none⟩ (.bool false) := by
  have c3 : w.cell? ⟨qb, 3, none⟩ = some v := (hb.cell 3).trans hv
  have f3 := hb.frozen 3
  clear hb
  go_enter Tryz.func74, Tryz.ntmps74
  go_wp2
  go_ret
  exact ⟨rfl, rfl⟩

theorem run_neq_errV (w : World) (n : Int) : (binOp .neq 34 (errV n) .nilIface).run Tryz.prog w = .ok (.bool true) w := by kernel_rfl

set_option maxRecDepth 20000 in
theorem qnotice_err (w : World) (qb : Nat) (cs : Array Value) (T : TypeId) (hb : Bx w qb cs T) (v : Value) (hv : cs[3]? = some v) (n : Int) : Calls Tryz.prog 74 #[.pointer (some ⟨qb, 2, none⟩), errV n] w fun e w' => e = .returned (errV n) ∧ w' = w.setCell ⟨qb, 3, none⟩ (.bool true) := by
  have c3 : w.cell? ⟨qb, 3, none⟩ = some v := (hb.cell 3).trans hv
  have f3 := hb.frozen 3
  have hne := run_neq_errV w n
  clear hb
  go_enter Tryz.func74, Tryz.ntmps74
  go_wp2
  go_ret
  exact ⟨rfl, rfl⟩

/-- notice of what a call of the log answered. -/
theorem qnotice_any (w : World) (qb : Nat) (cs : Array Value) (T : TypeId) (hb : Bx w qb cs T) (v : Value) (hv : cs[3]? = some v) (f : Bool) : Calls Tryz.prog 74 #[.pointer (some ⟨qb, 2, none⟩), if f then errV 5 else .nilIface] w fun e w' => e = .returned (if f then errV 5 else .nilIface) ∧ Bx w' qb (cs.setIfInBounds 3 (.bool f)) T ∧ Fr (fun k => k = qb) w w' := by
  cases f with
  | false =>
    refine (qnotice_nil w qb cs T hb v hv).mono ?_
    rintro e w' ⟨rfl, rfl⟩
    exact ⟨rfl, hb.setCell 3 _, (Fr.refl (fun k => k = qb) _).setCell (fun _ => rfl) _⟩
  | true =>
    refine (qnotice_err w qb cs T hb v hv 5).mono ?_
    rintro e w' ⟨rfl, rfl⟩
    exact ⟨rfl, hb.setCell 3 _, (Fr.refl (fun k => k = qb) _).setCell (fun _ => rfl) _⟩

/-- What may be found on a disk, whichever of the waiting writes stay. -/
def Fnd (n : Nat) (d : Dk) (C : Nat) (Tl : List Bs → Nat → Prop) : Prop := ∀ sub, List.Sublist sub d.wait → ∃ G h a rs s, G ≤ C ∧ (strm rs).length ≤ 504 * hlf n ∧ s ≤ rs.length ∧ Gd n (over d.safe sub) G h a rs s ∧ Tl rs s

/-- A disk's flags and counts behind a call. -/
structure Stp (d d' : Dk) (fail : Bool) (X : Nat) : Prop where
  armed : d'.armed = d.armed
  down : d'.down = (if fail then true else d.down)
  pot : d'.pot ≤ d.pot + X

theorem Stp.free {d d' : Dk} {fail : Bool} {X : Nat} (h : Stp d d' fail X) : d'.armed = d.armed := h.armed

section
variable {w : World} {R : Nat → Nat} {hp b p l n : Nat} {d : Dk} {G h a : Nat} {rs : List Bs} {s num : Nat}

theorem LS.fitn (L : LS w R hp b p l n d G h a rs s num) : (strm rs).length ≤ 504 * hlf n := by
  have := L.lg.fit
  rwa [L.dn.many] at this

set_option maxHeartbeats 1000000 in
set_option maxRecDepth 20000 in
/-- A journal's sync. -/
theorem jsync_any (L : LS w R hp b p l n d G h a rs s num) (hpot : d.pot + 600000 < 576460752303423488) (Tl : List Bs → Nat → Prop) (hTl : Tl rs s) (hs : s ≤ rs.length) (qb : Nat) (cs : Array Value) (T : TypeId) (hb : Bx w qb cs T) (hR : R qb = 0) (h2 : cs[2]? = some (.pointer (some ⟨l, 0, none⟩))) (v : Value) (h3 : cs[3]? = some v) (hq4 : qb ≠ 1) :
    Calls Tryz.prog 53 #[.pointer (some ⟨qb, 2, none⟩)] w fun e w' => ∃ fail d' R', e = .returned (if fail then errV 5 else .nilIface) ∧ UpR w R R' ∧ Fr (fun k => R k ≠ 0 ∨ k = qb) w w' ∧ Dn w' R' hp b n d' ∧ Bx w' qb (cs.setIfInBounds 3 (.bool fail)) T ∧ Stp d d' fail 2 ∧ Fnd n d' G Tl ∧ (d.armed = false → fail = false) ∧ (fail = false → LS w' R' hp b p l n d' G h a rs rs.length num ∧ d'.wait = []) := by
  have SY := L.sync hpot
  have HL := hide L
  have c2 : w.cell? ⟨qb, 2, none⟩ = some (.pointer (some ⟨l, 0, none⟩)) := (hb.cell 2).trans h2
  have HH := hide (And.intro hTl (And.intro hs (And.intro hb (And.intro hR (And.intro h3 (And.intro hq4 hpot))))))
  have HS := hide SY
  clear SY L hTl hs hb hR h3 hq4 hpot h2
  go_enter Tryz.func53, Tryz.ntmps53
  go_wp2_with fail
  refine (unhide HS).mono ?_
  rintro e w1 ⟨r, R1, hr, rfl, u1, f1, D1, g1, l1⟩
  obtain ⟨fail, hfail⟩ : ∃ x, x = r.2 := ⟨_, rfl⟩
  obtain ⟨ev, hev⟩ : ∃ x, x = (if r.2 = true then errV 5 else Value.nilIface) := ⟨_, rfl⟩
  rw [← hev]
  have HN : Hid (Calls Tryz.prog 74 #[.pointer (some ⟨qb, 2, none⟩), ev] w1 fun e w' => e = .returned ev ∧ Bx w' qb (cs.setIfInBounds 3 (.bool fail)) T ∧ Fr (fun k => k = qb) w1 w') := by
    obtain ⟨hTl, hs, hb, hR, h3, hq4, hpot⟩ := unhide HH
    have := qnotice_any w1 qb cs T (hb.frame f1 (fun t => t hR)) v h3 fail
    rw [hfail, ← hev] at this
    rw [hfail]
    exact hide this
  have HX := hide (And.intro hr (And.intro u1 (And.intro f1 (And.intro D1 (And.intro g1 (And.intro l1 (And.intro hfail hev)))))))
  clear hr u1 f1 D1 g1 l1 hfail hev HS c2
  go_wp2_with fail
  refine (unhide HN).mono ?_
  rintro e w2 ⟨rfl, b2, f2⟩
  have HY := hide (And.intro b2 f2)
  clear b2 f2 HN
  obtain ⟨fl, rfl⟩ : ∃ fl : Bool, ev = (if fl = true then errV 5 else Value.nilIface) := ⟨r.2, (unhide HX).2.2.2.2.2.2.2⟩
  cases fl
  all_goals
    go_wp2
    go_ret
    obtain ⟨b2, f2⟩ := unhide HY
    obtain ⟨hr, u1, f1, D1, g1, l1, hfail, hev⟩ := unhide HX
    obtain ⟨hTl, hs, hb, hR, h3, hq4, hpot⟩ := unhide HH
    have L := unhide HL
    subst hfail
    have ff := Dk.act_flags d .sy
    have fp := Dk.act_pot d .sy
    rw [← hr] at ff fp
    have hz : ∀ k, k = qb → k < w1.heap.size → R1 k = 0 ∧ k ≠ 1 := fun k hk hlt => by
      subst hk
      exact ⟨by rw [u1 k hb.lt]; exact hR, hq4⟩
    refine ⟨r.2, r.1, R1, by rw [← hev]; rfl, u1, (f1.mono (fun _ _ t => .inl t)).trans f2 (fun _ _ t => .inr t), D1.own f2 (fun k hk t => hz k t hk), b2, ⟨ff.2.1, ff.2.2.1, fp⟩, ?_, fun ha => ?_, fun h0 => ⟨(l1 h0).1.own f2 (fun k hk t => hz k t hk), (l1 h0).2⟩⟩
    · intro sub hsub
      exact ⟨G, h, a, rs, s, Nat.le_refl _, L.fitn, hs, g1 sub hsub, hTl⟩
    · rw [hr]; exact Dk.act_free2 d _ ha

end

end Go.Proofs.YtjkghgcdkfkekaaGreatDoor

/- Contract: a journal's note. -/
namespace Go.Proofs.YtjkghgcdkfkekaaGreatDoor
open Go.RowKit

/-- What note leaves. -/
def NotePost (w : World) (R : Nat → Nat) (hp b p l n : Nat) (d : Dk) (G num : Nat) (rs : List Bs) (x : Bs) (q' : Qr) (Tl : List Bs → Nat → Prop) (qb : Nat) (cs : Array Value) (T : TypeId) (e : Ending) (w' : World) : Prop :=
  ∃ (fail : Bool) (d' : Dk) (R' : Nat → Nat), e = .returned (if fail then errV 5 else .nilIface) ∧ UpR w R R' ∧ Fr (fun k => R k ≠ 0 ∨ k = qb) w w' ∧ Dn w' R' hp b n d' ∧ Bx w' qb (cs.setIfInBounds 3 (.bool fail)) T ∧ Stp d d' fail (180 * hlf n + 6) ∧ Fnd n d' (G + 1 + hlf n) Tl ∧ (d.armed = false → fail = false) ∧
    (fail = false → ∃ G' h' a' rs' s' num', G' ≤ G + 1 + hlf n ∧ num' ≤ num + 1 ∧ LS w' R' hp b p l n d' G' h' a' rs' s' num' ∧ Tl rs' s' ∧ s' ≤ rs'.length ∧ (rs' = rs ++ [x] ∨ rs' = qrecs q'))

section
variable {w : World} {R : Nat → Nat} {hp b p l n : Nat} {d : Dk} {G h a : Nat} {rs : List Bs} {s num : Nat}

set_option maxHeartbeats 600000 in
set_option maxRecDepth 20000 in
theorem note_any (L : LS w R hp b p l n d G h a rs s num) (h4 : 4 ≤ n) (hm : n ≤ 1048576) (hpot : d.pot + 180 * hlf n + 600000 < 576460752303423488) (hG : G ≤ 150000000000000) (hnum : num < 4611686018427387904) (c : Cg) (hc : c.Ok) (q' : Qr) (hq' : q'.Ok 4096) (hfit : (strm (qrecs q')).length ≤ 504 * hlf n)
    (Tl : List Bs → Nat → Prop) (t1 : Tl rs s) (t2 : Tl (rs ++ [c.raw]) s) (t3 : Tl (qrecs q') (qrecs q').length) (hs : s ≤ rs.length) (xo : Option Addr) (xc : Nat) (hx : BAt w xo xc c.it) (E : Nat → Prop) (io : Option Addr) (cap gg oo : Nat) (hI : Its E w io cap gg oo q'.items)
    (qb : Nat) (cs : Array Value) (T : TypeId) (hb : Bx w qb cs T) (hR : R qb = 0) (h2 : cs[2]? = some (.pointer (some ⟨l, 0, none⟩))) (v : Value) (h3 : cs[3]? = some v) (hq4 : qb ≠ 1) :
    Calls Tryz.prog 76 #[.pointer (some ⟨qb, 2, none⟩), .agg #[.int .i64 (c.k : Int), .int .i64 (c.s : Int), .slice xo c.it.length xc], .agg #[.int .i64 (q'.acked : Int), .slice io q'.items.length cap]] w (NotePost w R hp b p l n d G num rs c.raw q' Tl qb cs T) := by
  have hbd := hlf_bd n h4 hm
  have hcr := raw_length c hc
  have hci := hc.it
  have HH := hide (And.intro L (And.intro h4 (And.intro hm (And.intro hpot (And.intro hG (And.intro hnum (And.intro hc (And.intro hq' (And.intro hfit (And.intro t1 (And.intro t2 (And.intro t3 (And.intro hs (And.intro hx (And.intro hI (And.intro hb (And.intro hR (And.intro h2 (And.intro h3 (And.intro hq4 (And.intro hbd hcr)))))))))))))))))))))
  have hqlt := hb.lt
  have c2 : w.cell? ⟨qb, 2, none⟩ = some (.pointer (some ⟨l, 0, none⟩)) := (hb.cell 2).trans h2
  have hF0 : Fr (fun _ => False) w ((w.alloc (.cells #[.int .i64 (c.k : Int), .int .i64 (c.s : Int), .slice xo c.it.length xc] 123)).alloc (.cells #[.int .i64 (q'.acked : Int), .slice io q'.items.length cap] 118)) := ((Fr.refl _ _).alloc _).alloc _
  have RC := fun u (hu : Fr (fun _ => False) w u) => qrecord_any u c.k c.s hc.k hc.s xo xc c.it (hx.later hu) (by omega)
  have b5 := Bx.new (w.alloc (.cells #[.int .i64 (c.k : Int), .int .i64 (c.s : Int), .slice xo c.it.length xc] 123)) #[.int .i64 (q'.acked : Int), .slice io q'.items.length cap] 118
  simp only [heap_alloc] at b5
  have HC := hide (And.intro RC (And.intro hF0 b5))
  clear RC hF0 L h4 hm hpot hG hnum hc hq' hfit t1 t2 t3 hs hx hI hb hR h2 h3 hq4 b5 hbd hcr hci
  go_enter Tryz.func76, Tryz.ntmps76
  go_wp2_with fail
  refine ((unhide HC).1 _ (unhide HC).2.1).mono ?_
  rintro e w1 ⟨bv, g1, rfl, hrow, hF1, hg1⟩
  obtain ⟨bo, bc, rfl, hjk⟩ := hrow.shape
  clear hjk
  obtain ⟨junk, hF0, b5⟩ := unhide HC
  clear junk
  have hF01 := hF0.trans hF1 (fun _ _ t => t)
  obtain ⟨x, hxr⟩ : ∃ x, x = c.raw := ⟨_, rfl⟩
  rw [show qraw c.k c.s c.it = x by rw [hxr]; rfl] at hrow ⊢
  have RO := (((unhide HH).1).keep hF01).room (unhide HH).2.1 (unhide HH).2.2.1
  have c21 : w1.cell? ⟨qb, 2, none⟩ = some (.pointer (some ⟨l, 0, none⟩)) := (hF01.cell (a := ⟨qb, 2, none⟩) hqlt (fun t => t)).trans c2
  have HR := hide (And.intro RO (And.intro hrow (And.intro hF01 (And.intro (b5.keep hF1) (And.intro hg1 hxr)))))
  clear hF0 b5 hF1 hg1 hrow RO hF01 HC c2 hxr
  have hxl : (x.length : Int) ≤ 267 := by have := (unhide HR).2.2.2.2.2; have := (unhide HH).2.2.2.2.2.2.2.2.2.2.2.2.2.2.2.2.2.2.2.2.2; rw [← (unhide HR).2.2.2.2.2] at this; omega
  obtain ⟨rm, hrm⟩ : ∃ rm : Int, rm = 504 * (hlf n : Int) - (bgn (strm rs).length : Int) - 12 := ⟨_, rfl⟩
  rw [← hrm] at HR
  have HRM := hide hrm
  clear hrm
  go_wp2_with fail
  refine (unhide HR).1.mono ?_
  rintro e w2 ⟨rfl, hF2⟩
  obtain ⟨junk, hrow, hF01, b5, hg1, hxr⟩ := unhide HR
  clear junk
  have hrm := unhide HRM
  have hF02 := hF01.trans hF2 (fun _ _ t => t)
  have c22 : w2.cell? ⟨qb, 2, none⟩ = some (.pointer (some ⟨l, 0, none⟩)) := (hF2.cell (a := ⟨qb, 2, none⟩) (Nat.lt_of_lt_of_le hqlt hF01.size) (fun t => t)).trans c21
  have hlen : (strm (rs ++ [x])).length = bgn (strm rs).length + 12 + x.length := by rw [strm_snoc, addR_length]
  have HG := hide (And.intro (hrow.frame hF2 (fun t => t)) (And.intro hF02 (And.intro (b5.keep hF2) (And.intro hg1 (And.intro hxr (And.intro hlen hrm))))))
  clear hrow hF01 b5 hg1 hxr hF2 hF02 hlen HR c21 hrm
  by_cases hle : (x.length : Int) ≤ rm
  · have AP : Hid (Calls Tryz.prog 12 #[.pointer (some ⟨l, 0, none⟩), .slice bo x.length bc] w2 fun e w' => ∃ (fail : Bool) (ev : Value) (d' : Dk) (R' : Nat → Nat), e = .returned ev ∧ ev = (if fail then errV 5 else .nilIface) ∧ Hid (UpR w R R' ∧ Fr (fun k => R k ≠ 0) w w' ∧ Dn w' R' hp b n d' ∧ Stp d d' fail (180 * hlf n + 6) ∧ Fnd n d' (G + 1 + hlf n) Tl ∧ (d.armed = false → fail = false) ∧ (fail = false → LS w' R' hp b p l n d' G h a (rs ++ [x]) s num))) := by
      obtain ⟨L, h4, hm, hpot, hG, hnum, hc, hq', hfit, t1, t2, t3, hs, hx, hI, hb, hR, h2, h3, hq4, hbd, hcr⟩ := unhide HH
      obtain ⟨hrow, hF02, b5, hg1, hxr, hlen, hrm⟩ := unhide HG
      have hfx : (strm (rs ++ [x])).length ≤ 504 * hlf n := by omega
      have L2 := L.keep hF02
      have hx2 := (hrow.bat (by omega)).2
      have hz := L.dn.dk.zero
      refine hide ((L2.append h4 hm (by omega) bo bc x hx2 (fun k off h0 e => ?_) hfx).mono ?_)
      · obtain ⟨ao, cc, e1, q1, q2, q3, q4⟩ := hrow.shape
        injection e1 with e1 e2 e3
        subst e1 e3
        rw [q3 (by omega)] at e
        injection e with e
        injection e with e1 e2
        rw [← e1]
        exact hz _ (by simp at hg1; omega)
      · rintro e w' ⟨r, R', hr, he, u1, f1, D1, g1, l1⟩
        have ff := Dk.run_flags (putActs (2 + h * hlf n) G rs x) d
        have fp := Dk.run_pot (putActs (2 + h * hlf n) G rs x) d
        have hn := nput_hlf rs x (hlf n) hfx
        rw [← hr] at ff fp
        rw [putActs_length] at fp
        refine ⟨r.2, _, r.1, R', he, rfl, hide ⟨fun k hk => u1 k (Nat.lt_of_lt_of_le hk hF02.size), (hF02.mono (fun _ _ t => t.elim)).trans f1 (fun _ _ t => t), D1, ⟨ff.2.1, ff.2.2, by omega⟩, fun sub hsub => ?_, fun ha => ?_, l1⟩⟩
        · exact ⟨G, h, a, rs ++ [x], s, by omega, hfx, by rw [List.length_append]; omega, g1 sub hsub, by rw [hxr]; exact t2⟩
        · rw [hr]; exact Dk.run_free _ d ha
    go_wp2_with fail
    refine (unhide AP).mono ?_
    rintro e w3 ⟨fail, ev, d', R', rfl, hev, HP⟩
    have HN : Hid (Calls Tryz.prog 74 #[.pointer (some ⟨qb, 2, none⟩), ev] w3 fun e w' => e = .returned ev ∧ Bx w' qb (cs.setIfInBounds 3 (.bool fail)) T ∧ Fr (fun k => k = qb) w3 w') := by
      obtain ⟨L, h4, hm, hpot, hG, hnum, hc, hq', hfit, t1, t2, t3, hs, hx, hI, hb, hR, h2, h3, hq4, hbd, hcr⟩ := unhide HH
      have := qnotice_any w3 qb cs T (hb.frame (unhide HP).2.1 (fun t => t hR)) v h3 fail
      rw [← hev] at this
      exact hide this
    have HEV := hide hev
    clear AP hev
    go_wp2_with fail
    refine (unhide HN).mono ?_
    rintro e w4 ⟨rfl, b4, f4⟩
    have HY := hide (And.intro b4 f4)
    clear b4 f4 HN
    obtain ⟨fl, rfl⟩ : ∃ fl : Bool, ev = (if fl = true then errV 5 else Value.nilIface) := ⟨fail, unhide HEV⟩
    cases fl
    all_goals
      go_wp2
      go_ret
      obtain ⟨b4, f4⟩ := unhide HY
      obtain ⟨L, h4, hm, hpot, hG, hnum, hc, hq', hfit, t1, t2, t3, hs, hx, hI, hb, hR, h2, h3, hq4, hbd, hcr⟩ := unhide HH
      obtain ⟨hrow, hF02, b5, hg1, hxr, hlen, hrm⟩ := unhide HG
      obtain ⟨u1, f1, D1, st, fnd, ar, l1⟩ := unhide HP
      have hz : ∀ k, k = qb → k < w3.heap.size → R' k = 0 ∧ k ≠ 1 := fun k hk hlt => by
        subst hk
        exact ⟨by rw [u1 k hb.lt]; exact hR, hq4⟩
      refine ⟨fail, d', R', by rw [← unhide HEV]; rfl, u1, (f1.mono (fun _ _ t => .inl t)).trans f4 (fun _ _ t => .inr t), D1.own f4 (fun k hk t => hz k t hk), b4, st, fnd, ar, fun h0 => ⟨G, h, a, rs ++ [x], s, num, by omega, by omega, (l1 h0).own f4 (fun k hk t => hz k t hk), by rw [hxr]; exact t2, by rw [List.length_append]; omega, .inl (by rw [hxr])⟩⟩
  · have hgt : rm < (x.length : Int) := by omega
    have hled : decide ((x.length : Int) ≤ rm) = false := decide_eq_false hle
    have HLE := hide hle
    clear hle
    have RE : Hid (∀ u, Fr (fun _ => False) w2 u → Calls Tryz.prog 106 #[.agg #[.int .i64 (q'.acked : Int), .slice io q'.items.length cap]] u fun e w' => ∃ ro rc, e = .returned (.slice ro (qrecs q').length rc) ∧ Hid (RecsP (fun k => w.heap.size ≤ k) w' ro rc (qrecs q')) ∧ Hid (Fr (fun _ => False) w2 w')) := by
      obtain ⟨L, h4, hm, hpot, hG, hnum, hc, hq', hfit, t1, t2, t3, hs, hx, hI, hb, hR, h2, h3, hq4, hbd, hcr⟩ := unhide HH
      obtain ⟨hrow, hF02, b5, hg1, hxr, hlen, hrm⟩ := unhide HG
      refine hide (fun u hu => ?_)
      refine (qrecs_any u E q'.acked io cap gg oo q'.items (hI.keep (hF02.trans hu (fun _ _ t => t))) hq'.last hq'.it).mono ?_
      rintro e w' ⟨ro, rc, rfl, k1, k2⟩
      exact ⟨ro, rc, rfl, hide (k1.mono (fun k _ t => Nat.le_trans (Nat.le_trans hF02.size hu.size) t)), hide (hu.trans k2 (fun _ _ t => t))⟩
    have RW : Hid (∀ u ro rc, Fr (fun _ => False) w2 u → RecsP (fun k => w.heap.size ≤ k) u ro rc (qrecs q') → Calls Tryz.prog 28 #[.pointer (some ⟨l, 0, none⟩), .slice ro (qrecs q').length rc] u fun e w' => ∃ (fail : Bool) (ev : Value) (d' : Dk) (R' : Nat → Nat), e = .returned ev ∧ Hid (ev = (if fail then errV 5 else .nilIface)) ∧ Hid (UpR w R R' ∧ Fr (fun k => R k ≠ 0) w2 w' ∧ Fr (fun k => R k ≠ 0) w w' ∧ Dn w' R' hp b n d' ∧ Stp d d' fail (180 * hlf n + 6) ∧ Fnd n d' (G + 1 + hlf n) Tl ∧ (d.armed = false → fail = false) ∧ (fail = false → ∃ G', G' ≤ G + 1 + hlf n ∧ LS w' R' hp b p l n d' G' (1 - h) (1 - a) (qrecs q') (qrecs q').length (num + 1)))) := by
      obtain ⟨L, h4, hm, hpot, hG, hnum, hc, hq', hfit, t1, t2, t3, hs, hx, hI, hb, hR, h2, h3, hq4, hbd, hcr⟩ := unhide HH
      obtain ⟨hrow, hF02, b5, hg1, hxr, hlen, hrm⟩ := unhide HG
      refine hide (fun u ro rc hu hrec => ?_)
      have hFu := hF02.trans hu (fun _ _ t => t)
      have Lu := L.keep hFu
      have hz := L.dn.dk.zero
      refine (Lu.rewrite h4 hm hpot hG hnum ro rc (qrecs q') (hrec.mono (fun k _ t => hz k t)) hfit).mono ?_
      rintro e w' ⟨r, R', G', g1, g2, hr, he, u1, f1, D1, fn, l1⟩
      have ff := Dk.run_flags (anewActs (2 + (1 - h) * hlf n) G' (qrecs q') (1 - a) (hsec G' (1 - h))) d
      have fp := Dk.run_pot (anewActs (2 + (1 - h) * hlf n) G' (qrecs q') (1 - a) (hsec G' (1 - h))) d
      have hn := nputs_hlf (qrecs q') (hlf n) hfit
      rw [← hr] at ff fp
      rw [anewActs_length] at fp
      refine ⟨r.2, _, r.1, R', he, hide rfl, hide ⟨fun k hk => u1 k (Nat.lt_of_lt_of_le hk hFu.size), (hu.mono (fun _ _ t => t.elim)).trans f1 (fun _ _ t => t), (hFu.mono (fun _ _ t => t.elim)).trans f1 (fun _ _ t => t), D1, ⟨ff.2.1, ff.2.2, by omega⟩, fun sub hsub => ?_, fun ha => ?_, fun h0 => ⟨G', g2, (l1 h0).1⟩⟩⟩
      · rcases fn sub hsub with g | g
        · exact ⟨G, h, a, rs, s, by omega, L.fitn, hs, g, t1⟩
        · exact ⟨G', 1 - h, 1 - a, qrecs q', (qrecs q').length, g2, hfit, Nat.le_refl _, g, t3⟩
      · rw [hr]; exact Dk.run_free _ d ha
    have HNT : Hid (∀ w3 (fail : Bool) (ev : Value), Fr (fun k => R k ≠ 0) w w3 → ev = (if fail then errV 5 else .nilIface) → Calls Tryz.prog 74 #[.pointer (some ⟨qb, 2, none⟩), ev] w3 fun e w' => e = .returned ev ∧ Hid (Bx w' qb (cs.setIfInBounds 3 (.bool fail)) T ∧ Fr (fun k => k = qb) w3 w')) := by
      obtain ⟨L, h4, hm, hpot, hG, hnum, hc, hq', hfit, t1, t2, t3, hs, hx, hI, hb, hR, h2, h3, hq4, hbd, hcr⟩ := unhide HH
      refine hide (fun w3 fail ev hf hev => ?_)
      have := qnotice_any w3 qb cs T (hb.frame hf (fun t => t hR)) v h3 fail
      rw [← hev] at this
      exact this.mono (fun e w' t => ⟨t.1, hide t.2⟩)
    have HS : Hid (∀ w', (∃ S : Nat → Prop, Fr S w2 w' ∧ (∀ k, S k → R k ≠ 0)) → w'.cell? ⟨qb, 2, none⟩ = some (.pointer (some ⟨l, 0, none⟩)) ∧ w'.cell? ⟨w.heap.size + 1, 0, none⟩ = some (.int .i64 (q'.acked : Int)) ∧ w'.cell? ⟨w.heap.size + 1, 1, none⟩ = some (.slice io q'.items.length cap)) := by
      obtain ⟨L, h4, hm, hpot, hG, hnum, hc, hq', hfit, t1, t2, t3, hs, hx, hI, hb, hR, h2, h3, hq4, hbd, hcr⟩ := unhide HH
      obtain ⟨hrow, hF02, b5, hg1, hxr, hlen, hrm⟩ := unhide HG
      have hz := L.dn.dk.zero
      refine hide (fun w' ⟨S, hf, hS⟩ => ?_)
      have e5 := b5.frame hf (fun t => hS _ t (hz _ (by omega)))
      have eq := (hb.keep hF02).frame hf (fun t => hS _ t hR)
      exact ⟨(eq.cell 2).trans h2, e5.cell 0, e5.cell 1⟩
    have HS2 : Hid (∀ w' (fail : Bool), Bx w' qb (cs.setIfInBounds 3 (.bool fail)) T → (∃ S : Nat → Prop, Fr S w2 w' ∧ (∀ k, S k → R k ≠ 0 ∨ k = qb)) → w'.cell? ⟨qb, 2, none⟩ = some (.pointer (some ⟨l, 0, none⟩)) ∧ w'.cell? ⟨w.heap.size + 1, 0, none⟩ = some (.int .i64 (q'.acked : Int)) ∧ w'.cell? ⟨w.heap.size + 1, 1, none⟩ = some (.slice io q'.items.length cap)) := by
      obtain ⟨L, h4, hm, hpot, hG, hnum, hc, hq', hfit, t1, t2, t3, hs, hx, hI, hb, hR, h2, h3, hq4, hbd, hcr⟩ := unhide HH
      obtain ⟨hrow, hF02, b5, hg1, hxr, hlen, hrm⟩ := unhide HG
      have hz := L.dn.dk.zero
      refine hide (fun w' fail hbx ⟨S, hf, hS⟩ => ?_)
      have e5 := b5.frame hf (fun t => by rcases hS _ t with t | t; (· exact t (hz _ (by omega))); (· have := hb.lt; omega))
      exact ⟨by rw [hbx.cell 2, ← h2]; simp, e5.cell 0, e5.cell 1⟩
    go_wp2
    go_region_held3 (fun w' => w'.cell? ⟨qb, 2, none⟩ = some (.pointer (some ⟨l, 0, none⟩)) ∧ w'.cell? ⟨w.heap.size + 1, 0, none⟩ = some (.int .i64 (q'.acked : Int)) ∧ w'.cell? ⟨w.heap.size + 1, 1, none⟩ = some (.slice io q'.items.length cap)) (first | exact unhide HS _ ⟨fun _ => False, Fr.refl _ _, fun _ t => t.elim⟩ | exact unhide HS _ ⟨fun _ => False, (Fr.refl _ _).drew, fun _ t => t.elim⟩ | exact unhide HS _ ⟨fun _ => False, unhide kf, fun _ t => t.elim⟩ | exact unhide HS _ ⟨fun k => R k ≠ 0, (unhide HP).2.1, fun _ t => t⟩ | exact unhide HS2 _ _ (unhide HY).1 ⟨fun k => R k ≠ 0 ∨ k = qb, (Fr.mono (unhide HP).2.1 (fun _ _ t => .inl t)).trans (unhide HY).2 (fun _ _ t => .inr t), fun _ t => t⟩) (first | (go_at_call 106; refine (unhide RE _ ((Fr.refl _ _).drew)).mono ?_; rintro e w3 ⟨ro, rc, rfl, kr, kf⟩) | (go_at_call 28; refine (unhide RW w3 ro rc (unhide kf) (unhide kr)).mono ?_; rintro e w4 ⟨fail, ev, d', R', rfl, HEV, HP⟩) | (go_at_call 74; refine (unhide HNT w4 fail ev (unhide HP).2.2.1 (unhide HEV)).mono ?_; rintro e w5 ⟨rfl, HY⟩))
    obtain ⟨fl, rfl⟩ : ∃ fl : Bool, ev = (if fl = true then errV 5 else Value.nilIface) := ⟨fail, unhide HEV⟩
    cases fl
    all_goals
      go_wp2
      go_ret
      obtain ⟨b4, f4⟩ := unhide HY
      obtain ⟨L, h4, hm, hpot, hG, hnum, hc, hq', hfit, t1, t2, t3, hs, hx, hI, hb, hR, h2, h3, hq4, hbd, hcr⟩ := unhide HH
      obtain ⟨u1, f1', f1, D1, st, fnd, ar, l1⟩ := unhide HP
      have hz : ∀ k, k = qb → k < w4.heap.size → R' k = 0 ∧ k ≠ 1 := fun k hk hlt => by
        subst hk
        exact ⟨by rw [u1 k hb.lt]; exact hR, hq4⟩
      refine ⟨fail, d', R', by rw [← unhide HEV]; rfl, u1, (f1.mono (fun _ _ t => .inl t)).trans f4 (fun _ _ t => .inr t), D1.own f4 (fun k hk t => hz k t hk), b4, st, fnd, ar, fun h0 => ?_⟩
      obtain ⟨G', hG', l2⟩ := l1 h0
      exact ⟨G', _, _, qrecs q', (qrecs q').length, num + 1, hG', by omega, l2.own f4 (fun k hk t => hz k t hk), t3, Nat.le_refl _, .inr rfl⟩

end

end Go.Proofs.YtjkghgcdkfkekaaGreatDoor

/- A queue that lives on a disk ('LQ'); contract: do. -/
namespace Go.Proofs.YtjkghgcdkfkekaaGreatDoor
open Go.RowKit

/-- The cells of a queue's box. -/
def qbox (a : Nat) (io : Option Addr) (n cap l : Nat) (dead : Bool) (lim : Nat) : Array Value := #[.int .i64 (a : Int), .slice io n cap, .pointer (some ⟨l, 0, none⟩), .bool dead, .int .i64 (lim : Int)]

/-- A limit, and sectors that do for it. -/
structure Lim (lim n : Nat) : Prop where
  one : 1 ≤ lim
  le : lim ≤ 4096
  sec : 2 + 2 * qH lim ≤ n
  max : n ≤ 1048576

theorem Lim.four {lim n : Nat} (h : Lim lim n) : 4 ≤ n := by have h1 := h.one; have h2 := h.sec; unfold qH at h2; omega
theorem Lim.fit {lim n : Nat} (h : Lim lim n) {q : Qr} (hq : q.Ok lim) : (strm (qrecs q)).length ≤ 504 * hlf n := by
  have h1 := qrecs_fit q lim hq
  have h2 := hlf_q lim n h.sec
  exact Nat.le_trans h1 (Nat.mul_le_mul_left _ h2)

/-- A queue in memory; O: the blocks that are the queue's own. -/
structure QM (w : World) (R : Nat → Nat) (O : Nat → Prop) (qb l lim : Nat) (dead : Bool) (q : Qr) : Prop where
  box : ∃ io cap g off, Bx w qb (qbox q.acked io q.items.length cap l dead lim) 120 ∧ RI (fun k => O k ∧ k ≠ qb) w io cap g off q.items
  oq : O qb
  own : ∀ k, O k → k < w.heap.size ∧ R k = 0 ∧ k ≠ 1

theorem QM.frame {S : Nat → Prop} {w w' : World} {R R' : Nat → Nat} {O : Nat → Prop} {qb l lim : Nat} {dead : Bool} {q : Qr} (h : QM w R O qb l lim dead q) (hF : Fr S w w') (hS : ∀ k, O k → ¬ S k) (hU : UpR w R R') : QM w' R' O qb l lim dead q := by
  obtain ⟨io, cap, g, off, hb, hI⟩ := h.box
  exact ⟨⟨io, cap, g, off, hb.frame hF (hS qb h.oq), hI.frame hF (fun k hk => hS k hk.1)⟩, h.oq, fun k hk => ⟨Nat.lt_of_lt_of_le (h.own k hk).1 hF.size, by rw [hU k (h.own k hk).1]; exact (h.own k hk).2.1, (h.own k hk).2.2⟩⟩

/-- New blocks become the queue's own. -/
theorem QM.grow {w w' : World} {R : Nat → Nat} {O : Nat → Prop} {qb l lim : Nat} {dead : Bool} {q : Qr} (h : QM w R O qb l lim dead q) (hF : Fr (fun _ => False) w w') (hz : ∀ k, w.heap.size ≤ k → R k = 0) (h4 : 1 < w.heap.size) : QM w' R (fun k => O k ∨ (w.heap.size ≤ k ∧ k < w'.heap.size)) qb l lim dead q := by
  obtain ⟨io, cap, g, off, hb, hI⟩ := h.box
  have hql := hb.lt
  refine ⟨⟨io, cap, g, off, hb.keep hF, (hI.keep hF).mono (fun k _ t => ⟨.inl t.1, t.2⟩)⟩, .inl h.oq, fun k hk => ?_⟩
  rcases hk with hk | hk
  · exact ⟨Nat.lt_of_lt_of_le (h.own k hk).1 hF.size, (h.own k hk).2⟩
  · exact ⟨hk.2, hz k hk.1, by omega⟩

/-- A queue that lives on a disk. -/
structure LQ (w : World) (R : Nat → Nat) (O : Nat → Prop) (hp b p l qb n lim : Nat) (d : Dk) (G h a : Nat) (rs : List Bs) (s num : Nat) (q : Qr) : Prop where
  ls : LS w R hp b p l n d G h a rs s num
  qm : QM w R O qb l lim false q
  told : qOf rs = some q
  ok : q.Ok lim
  sle : s ≤ rs.length

/-- Blocks of a client: neither the log's nor the queue's. -/
theorem LQ.own {S : Nat → Prop} {w w' : World} {R : Nat → Nat} {O : Nat → Prop} {hp b p l qb n lim : Nat} {d : Dk} {G h a : Nat} {rs : List Bs} {s num : Nat} {q : Qr} (L : LQ w R O hp b p l qb n lim d G h a rs s num q) (hF : Fr S w w') (hS : ∀ k, k < w.heap.size → S k → R k = 0 ∧ k ≠ 1 ∧ ¬ O k) : LQ w' R O hp b p l qb n lim d G h a rs s num q := by
  have hF' : Fr (fun k => S k ∧ k < w.heap.size) w w' := hF.mono (fun k hk t => ⟨t, hk⟩)
  exact ⟨L.ls.own hF (fun k hk t => ⟨(hS k hk t).1, (hS k hk t).2.1⟩), L.qm.frame hF' (fun k hk t => (hS k t.2 t.1).2.2 hk) (UpR.refl _ _), L.told, L.ok, L.sle⟩

theorem LQ.keep {w w' : World} {R : Nat → Nat} {O : Nat → Prop} {hp b p l qb n lim : Nat} {d : Dk} {G h a : Nat} {rs : List Bs} {s num : Nat} {q : Qr} (L : LQ w R O hp b p l qb n lim d G h a rs s num q) (hF : Fr (fun _ => False) w w') : LQ w' R O hp b p l qb n lim d G h a rs s num q := L.own hF (fun _ _ t => t.elim)

theorem LQ.grow {w w' : World} {R : Nat → Nat} {O : Nat → Prop} {hp b p l qb n lim : Nat} {d : Dk} {G h a : Nat} {rs : List Bs} {s num : Nat} {q : Qr} (L : LQ w R O hp b p l qb n lim d G h a rs s num q) (hF : Fr (fun _ => False) w w') : LQ w' R (fun k => O k ∨ (w.heap.size ≤ k ∧ k < w'.heap.size)) hp b p l qb n lim d G h a rs s num q :=
  ⟨L.ls.keep hF, L.qm.grow hF L.ls.dn.dk.zero L.ls.dn.tab.1.pos, L.told, L.ok, L.sle⟩

/-- What a change of a queue leaves. -/
def DoPost (w : World) (R : Nat → Nat) (O : Nat → Prop) (hp b p l qb n lim : Nat) (d : Dk) (G num : Nat) (q' : Qr) (Tl : List Bs → Nat → Prop) (fail : Bool) (w' : World) : Prop :=
  ∃ (d' : Dk) (R' : Nat → Nat), UpR w R R' ∧ Fr (fun k => R k ≠ 0 ∨ O k) w w' ∧ Dn w' R' hp b n d' ∧ Stp d d' fail (180 * hlf n + 6) ∧ Fnd n d' (G + 1 + hlf n) Tl ∧ (d.armed = false → fail = false) ∧
    (fail = true → ∃ cs, Bx w' qb cs 120 ∧ cs[3]? = some (.bool true) ∧ R' qb = 0) ∧
    (fail = false → ∃ G' h' a' rs' s' num' O', G' ≤ G + 1 + hlf n ∧ num' ≤ num + 1 ∧ LQ w' R' O' hp b p l qb n lim d' G' h' a' rs' s' num' q' ∧ Tl rs' s' ∧ ∀ k, k < w.heap.size → O' k → O k)

/-- The same, with what was answered. -/
def DoRet (w : World) (R : Nat → Nat) (O : Nat → Prop) (hp b p l qb n lim : Nat) (d : Dk) (G num : Nat) (q' : Qr) (Tl : List Bs → Nat → Prop) (e : Ending) (w' : World) : Prop :=
  ∃ fail : Bool, e = .returned (if fail then errV 5 else .nilIface) ∧ DoPost w R O hp b p l qb n lim d G num q' Tl fail w'

section
variable {w : World} {R : Nat → Nat} {O : Nat → Prop} {hp b p l qb n lim : Nat} {d : Dk} {G h a : Nat} {rs : List Bs} {s num : Nat} {q : Qr}

set_option maxHeartbeats 600000 in
set_option maxRecDepth 20000 in
theorem do_any (L : LQ w R O hp b p l qb n lim d G h a rs s num q) (hl : Lim lim n) (hpot : d.pot + 180 * hlf n + 600000 < 576460752303423488) (hG : G ≤ 150000000000000) (hnum : num < 4611686018427387904) (c : Cg) (hc : c.Ok) (hmay : q.may c false = true) (hacc : q.acked ≤ (q.behind c).acked) (hq' : (q.behind c).Ok lim)
    (Tl : List Bs → Nat → Prop) (t1 : Tl rs s) (t2 : Tl (rs ++ [c.raw]) s) (t3 : Tl (qrecs (q.behind c)) (qrecs (q.behind c)).length) (xo : Option Addr) (xc : Nat) (hx : IEl (fun k => O k ∧ k ≠ qb) w (.slice xo c.it.length xc) c.it) (hxg : ∀ io cap g off, RI (fun k => O k ∧ k ≠ qb) w io cap g off q.items → w.cell? ⟨qb, 1, none⟩ = some (.slice io q.items.length cap) → ∀ k off, 0 < c.it.length → xo = some ⟨k, off, none⟩ → 0 < cap → k ≠ g) :
    Calls Tryz.prog 55 #[.pointer (some ⟨qb, 0, none⟩), .agg #[.int .i64 (c.k : Int), .int .i64 (c.s : Int), .slice xo c.it.length xc]] w (DoRet w R O hp b p l qb n lim d G num (q.behind c) Tl) := by
  obtain ⟨io, cap, g, off, hb, hI⟩ := L.qm.box
  have hg := hxg io cap g off hI (hb.cell 1)
  have hx2 : IEl (fun k => (O k ∧ k ≠ qb) ∧ (0 < cap → k ≠ g)) w (.slice xo c.it.length xc) c.it := by
    obtain ⟨ao, cc, e, hbt, hk⟩ := hx
    injection e with e1 e2 e3
    subst e1 e3
    exact ⟨xo, xc, rfl, hbt, fun k off h0 e => ⟨hk k off h0 e, hg k off h0 e⟩⟩
  have hq4 := L.ok.mono hl.le
  have hfit := hl.fit hq'
  have hF0 : Fr (fun _ => False) w (w.alloc (.cells #[.int .i64 (c.k : Int), .int .i64 (c.s : Int), .slice xo c.it.length xc] 123)) := (Fr.refl _ _).alloc _
  have b0 := Bx.new w #[.int .i64 (c.k : Int), .int .i64 (c.s : Int), .slice xo c.it.length xc] 123
  have BH := fun u (hu : Fr (fun _ => False) w u) => behind_all (fun k => O k ∧ k ≠ qb) u q io cap g off (hI.keep hu) hq4 c hc false (fun h => by cases h) hmay xo xc (hx2.frame hu (fun _ _ t => t))
  have hqlt := hb.lt
  have HH := hide (And.intro L (And.intro hl (And.intro hpot (And.intro hG (And.intro hnum (And.intro hc (And.intro hacc (And.intro hq' (And.intro t1 (And.intro t2 (And.intro t3 (And.intro hx2 (And.intro hb (And.intro hI (And.intro hq4 (And.intro hfit (And.intro hF0 b0)))))))))))))))))
  have HB := hide BH
  have hgq : 0 < cap → g ≠ qb := fun hc => (hI.own hc).2
  have hgl : 0 < cap → g < w.heap.size := fun hc => hI.its.lt hc
  have HS : Hid (∀ w', (∃ S : Nat → Prop, Fr S (w.alloc (.cells #[.int .i64 (c.k : Int), .int .i64 (c.s : Int), .slice xo c.it.length xc] 123)) w' ∧ ¬ S qb ∧ ¬ S w.heap.size) → w'.cell? ⟨qb, 0, none⟩ = some (.int .i64 (q.acked : Int)) ∧ w'.cell? ⟨qb, 1, none⟩ = some (.slice io q.items.length cap) ∧ w'.cell? ⟨w.heap.size, 0, none⟩ = some (.int .i64 (c.k : Int)) ∧ w'.cell? ⟨w.heap.size, 1, none⟩ = some (.int .i64 (c.s : Int)) ∧ w'.cell? ⟨w.heap.size, 2, none⟩ = some (.slice xo c.it.length xc)) :=
    hide (fun w' ⟨S, hf, n1, n2⟩ => ⟨((hb.keep hF0).frame hf n1).cell 0, ((hb.keep hF0).frame hf n1).cell 1, (b0.frame hf n2).cell 0, (b0.frame hf n2).cell 1, (b0.frame hf n2).cell 2⟩)
  have HZB : Hid (∀ w', Fr (fun k => k = g ∧ 0 < cap) ((w.alloc (.cells #[.int .i64 (c.k : Int), .int .i64 (c.s : Int), .slice xo c.it.length xc] 123)).alloc (.cells #[.int .i64 0, .slice none 0 0] 118)).drew w' → w'.cell? ⟨w.heap.size + 1, 0, none⟩ = some (.int .i64 0) ∧ w'.cell? ⟨w.heap.size + 1, 1, none⟩ = some (.slice none 0 0) ∧ w'.frozen? ⟨w.heap.size + 1, 0, none⟩ = false ∧ w'.frozen? ⟨w.heap.size + 1, 1, none⟩ = false) := by
    have bz := Bx.new (w.alloc (.cells #[.int .i64 (c.k : Int), .int .i64 (c.s : Int), .slice xo c.it.length xc] 123)) #[.int .i64 0, .slice none 0 0] 118
    simp only [heap_alloc] at bz
    refine hide (fun w' hf => ?_)
    have e := bz.drew.frame hf (fun t => by have := hgl t.2; omega)
    exact ⟨e.cell 0, e.cell 1, e.frozen 0, e.frozen 1⟩
  have HMAY := hide hmay
  have HGN := hide (And.intro hgq hgl)
  have HQL := hide hqlt
  clear L hl hpot hG hnum hc hmay hacc hq' t1 t2 t3 hx hxg hb hI hg hx2 hq4 hfit hF0 b0 BH hgq hgl hqlt
  go_enter Tryz.func55, Tryz.ntmps55
  go_wp2
  go_region_held3 (fun w' => w'.cell? ⟨qb, 0, none⟩ = some (.int .i64 (q.acked : Int)) ∧ w'.cell? ⟨qb, 1, none⟩ = some (.slice io q.items.length cap) ∧ w'.cell? ⟨w.heap.size, 0, none⟩ = some (.int .i64 (c.k : Int)) ∧ w'.cell? ⟨w.heap.size, 1, none⟩ = some (.int .i64 (c.s : Int)) ∧ w'.cell? ⟨w.heap.size, 2, none⟩ = some (.slice xo c.it.length xc)) (first | exact unhide HS _ ⟨fun _ => False, Fr.refl _ _, fun t => t, fun t => t⟩ | exact unhide HS _ ⟨fun _ => False, (Fr.refl _ _).drew, fun t => t, fun t => t⟩ | exact unhide HS _ ⟨fun _ => False, ((Fr.refl _ _).alloc _).drew, fun t => t, fun t => t⟩ | exact unhide HS _ ⟨fun k => k = g ∧ 0 < cap, (((Fr.refl (fun k => k = g ∧ 0 < cap) _).alloc _).drew).trans (unhide hF2) (fun _ _ t => t), fun t => (unhide HGN).1 t.2 t.1.symm, fun t => by have := (unhide HGN).2 t.2; omega⟩ | exact unhide HS _ ⟨fun k => k = g ∧ 0 < cap, ((Fr.refl (fun k => k = g ∧ 0 < cap) _).drew).trans (unhide hF2) (fun _ _ t => t), fun t => (unhide HGN).1 t.2 t.1.symm, fun t => by have := (unhide HGN).2 t.2; omega⟩ | exact unhide HS _ ⟨fun k => k = g ∧ 0 < cap, (((Fr.refl (fun k => k = g ∧ 0 < cap) _).drew).trans (unhide hF2) (fun _ _ t => t)).alloc _, fun t => (unhide HGN).1 t.2 t.1.symm, fun t => by have := (unhide HGN).2 t.2; omega⟩ | exact unhide HS _ ⟨fun k => k = w.heap.size + 1 ∨ (k = g ∧ 0 < cap), ((((((Fr.refl (fun k => k = w.heap.size + 1 ∨ (k = g ∧ 0 < cap)) _).alloc _).drew).trans (unhide hF2) (fun _ _ t => .inr t)).setCell (fun _ => .inl rfl) _).setCell (fun _ => .inl rfl) _), fun t => by rcases t with t | t; (· have := unhide HQL; omega); (· exact (unhide HGN).1 t.2 t.1.symm), fun t => by rcases t with t | t; (· omega); (· have := (unhide HGN).2 t.2; omega)⟩) (first | (go_at_call 75; refine (unhide HB _ ((unhide HH).2.2.2.2.2.2.2.2.2.2.2.2.2.2.2.2.1.drew)).mono ?_; rintro e w2 ⟨io', cap', g', off', rfl, hBeh, hF2⟩; have hF2 := hide hF2; have hBeh := hide hBeh) | (go_at_call 75; refine (unhide HB _ (((unhide HH).2.2.2.2.2.2.2.2.2.2.2.2.2.2.2.2.1.alloc _).drew)).mono ?_; rintro e w2 ⟨io', cap', g', off', rfl, hBeh, hF2⟩; have hF2 := hide hF2; have hBeh := hide hBeh; obtain ⟨y0, y1, y2, y3⟩ := unhide HZB _ (unhide hF2)))
  · skip
    obtain ⟨W, tb, hW, htb, HW⟩ : ∃ W tb, W = w2.alloc (.cells #[.int .i64 ((q.behind c).acked : Int), .slice io' (q.behind c).items.length cap'] 118) ∧ tb = w2.heap.size ∧ Hid (Bx W tb #[.int .i64 ((q.behind c).acked : Int), .slice io' (q.behind c).items.length cap'] 118 ∧ Bx W w.heap.size #[.int .i64 (c.k : Int), .int .i64 (c.s : Int), .slice xo c.it.length xc] 123 ∧ Fr (fun k => k = g ∧ 0 < cap) w W ∧ Beh (fun k => (O k ∧ k ≠ qb) ∨ (w.heap.size ≤ k ∧ k < W.heap.size)) W q.acked io cap g off q.items c io' cap' g' off' ∧ w.heap.size < tb) := by
      refine ⟨_, _, rfl, rfl, hide ?_⟩
      obtain ⟨L, hl, hpot, hG, hnum, hc, hacc, hq', t1, t2, t3, hx2, hb, hI, hq4, hfit, hF0, b0⟩ := unhide HH
      have f0 : Fr (fun k => k = g ∧ 0 < cap) w w2 := ((hF0.drew).mono (fun _ _ t => t.elim)).trans (unhide hF2) (fun _ _ t => t)
      have hgl : 0 < cap → g < w.heap.size := (unhide HGN).2
      have e2 := b0.drew.frame (unhide hF2) (fun t => by have := hgl t.2; omega)
      refine ⟨Bx.new _ _ _, e2.alloc _, f0.alloc _, ((unhide hBeh).frame ((Fr.refl (fun _ => False) _).alloc _) (fun _ _ t => t)).mono (fun k hk t => ?_), e2.lt⟩
      rcases t with t | t
      · exact .inl t
      · simp at t; exact .inr ⟨by omega, hk⟩
    rw [← hW, ← htb]
    clear hW htb hBeh hF2 HB HS HZB
    obtain ⟨ac, hac⟩ : ∃ x, x = (q.behind c).acked := ⟨_, rfl⟩
    obtain ⟨nn, hnn⟩ : ∃ x, x = (q.behind c).items.length := ⟨_, rfl⟩
    have HS2 : Hid (∀ w', (∃ S : Nat → Prop, Fr S W w' ∧ (∀ k, w.heap.size ≤ k → k < W.heap.size → ¬ S k)) → w'.cell? ⟨w.heap.size, 0, none⟩ = some (.int .i64 (c.k : Int)) ∧ w'.cell? ⟨w.heap.size, 1, none⟩ = some (.int .i64 (c.s : Int)) ∧ w'.cell? ⟨w.heap.size, 2, none⟩ = some (.slice xo c.it.length xc) ∧ w'.cell? ⟨tb, 0, none⟩ = some (.int .i64 ((q.behind c).acked : Int)) ∧ w'.cell? ⟨tb, 1, none⟩ = some (.slice io' (q.behind c).items.length cap')) := by
      obtain ⟨bt, bc, hF, hBe, htb⟩ := unhide HW
      exact hide (fun w' ⟨S, hf, hS⟩ => ⟨(bc.frame hf (hS _ (Nat.le_refl _) bc.lt)).cell 0, (bc.frame hf (hS _ (Nat.le_refl _) bc.lt)).cell 1, (bc.frame hf (hS _ (Nat.le_refl _) bc.lt)).cell 2, (bt.frame hf (hS _ (by omega) bt.lt)).cell 0, (bt.frame hf (hS _ (by omega) bt.lt)).cell 1⟩)
    have HNO : Hid (∀ u, Fr (fun _ => False) W u → Calls Tryz.prog 76 #[.pointer (some ⟨qb, 2, none⟩), .agg #[.int .i64 (c.k : Int), .int .i64 (c.s : Int), .slice xo c.it.length xc], .agg #[.int .i64 ((q.behind c).acked : Int), .slice io' (q.behind c).items.length cap']] u fun e w' => ∃ (fail : Bool) (ev : Value), e = .returned ev ∧ Hid (ev = (if fail then errV 5 else .nilIface)) ∧ Hid (NotePost W R hp b p l n d G num rs c.raw (q.behind c) Tl qb (qbox q.acked io q.items.length cap l false lim) 120 (.returned (if fail then errV 5 else .nilIface)) w' ∧ (∃ d' R', UpR W R R' ∧ Fr (fun k => R k ≠ 0 ∨ k = qb) W w' ∧ Dn w' R' hp b n d' ∧ Bx w' qb ((qbox q.acked io q.items.length cap l false lim).setIfInBounds 3 (.bool fail)) 120 ∧ Stp d d' fail (180 * hlf n + 6) ∧ Fnd n d' (G + 1 + hlf n) Tl ∧ (d.armed = false → fail = false) ∧ (fail = false → ∃ G' h' a' rs' s' num', G' ≤ G + 1 + hlf n ∧ num' ≤ num + 1 ∧ LS w' R' hp b p l n d' G' h' a' rs' s' num' ∧ Tl rs' s' ∧ s' ≤ rs'.length ∧ (rs' = rs ++ [c.raw] ∨ rs' = qrecs (q.behind c)))))) := by
      obtain ⟨L, hl, hpot, hG, hnum, hc, hacc, hq', t1, t2, t3, hx2, hb, hI, hq4, hfit, hF0, b0⟩ := unhide HH
      obtain ⟨bt, bc, hF, hBe, htb⟩ := unhide HW
      refine hide (fun u hu => ?_)
      have hgo : ∀ k, k < w.heap.size → k = g ∧ 0 < cap → R k = 0 ∧ k ≠ 1 := fun k _ t => by rw [t.1]; exact (L.qm.own g (hI.own t.2).1).2
      have LW := (L.ls.own hF hgo).keep hu
      obtain ⟨g5, o5, hIt⟩ := hBe.after
      have hqb := (hb.frame hF (fun t => (unhide HGN).1 t.2 t.1.symm)).keep hu
      have hxu : BAt u xo xc c.it := by
        obtain ⟨ao, cc, e, hbt, hk⟩ := (hx2.frame hF (fun k hk t => hk.2 t.2 t.1)).frame hu (fun _ _ t => t)
        injection e with e1 e2 e3
        subst e1 e3
        exact hbt
      refine (note_any LW hl.four hl.max hpot hG hnum c hc (q.behind c) (hq'.mono hl.le) hfit Tl t1 t2 t3 L.sle xo xc hxu _ io' cap' g5 o5 (hIt.keep hu) qb _ _ hqb (L.qm.own qb L.qm.oq).2.1 rfl _ rfl (L.qm.own qb L.qm.oq).2.2).mono ?_
      rintro e w' ⟨fail, d', R', he, u1, f1, D1, b1, st, fnd, ar, l1⟩
      have u1' : UpR W R R' := fun k hk => u1 k (Nat.lt_of_lt_of_le hk hu.size)
      have f1' : Fr (fun k => R k ≠ 0 ∨ k = qb) W w' := (hu.mono (fun _ _ t => t.elim)).trans f1 (fun _ _ t => t)
      exact ⟨fail, _, he, hide rfl, hide ⟨⟨fail, d', R', rfl, u1', f1', D1, b1, st, fnd, ar, l1⟩, d', R', u1', f1', D1, b1, st, fnd, ar, l1⟩⟩
    have HRZ : Hid (∀ k, w.heap.size ≤ k → k < W.heap.size → ¬ (R k ≠ 0 ∨ k = qb)) := by
      obtain ⟨L, hl, hpot, hG, hnum, hc, hacc, hq', t1, t2, t3, hx2, hb, hI, hq4, hfit, hF0, b0⟩ := unhide HH
      have hz := L.ls.dn.dk.zero
      exact hide (fun k h1 h2 t => by rcases t with t | t; (· exact t (hz k h1)); (· have := hb.lt; omega))
    rw [← hac, ← hnn] at HS2 HNO ⊢
    have HAC := hide (And.intro hac hnn)
    clear hac hnn
    go_wp2
    go_region_held3 (fun w' => w'.cell? ⟨w.heap.size, 0, none⟩ = some (.int .i64 (c.k : Int)) ∧ w'.cell? ⟨w.heap.size, 1, none⟩ = some (.int .i64 (c.s : Int)) ∧ w'.cell? ⟨w.heap.size, 2, none⟩ = some (.slice xo c.it.length xc) ∧ w'.cell? ⟨tb, 0, none⟩ = some (.int .i64 (ac : Int)) ∧ w'.cell? ⟨tb, 1, none⟩ = some (.slice io' nn cap')) (first | exact unhide HS2 _ ⟨fun _ => False, Fr.refl _ _, fun _ _ _ t => t⟩ | exact unhide HS2 _ ⟨fun _ => False, (Fr.refl _ _).drew, fun _ _ _ t => t⟩ | exact unhide HS2 _ ⟨fun k => R k ≠ 0 ∨ k = qb, (unhide HP).2.choose_spec.choose_spec.2.1, unhide HRZ⟩) (first | (go_at_call 76; refine (unhide HNO _ ((Fr.refl _ _).drew)).mono ?_; rintro e w5 ⟨fail, ev, rfl, HEV, HP⟩))
    obtain ⟨fl, hfl⟩ : ∃ fl : Bool, ev = (if fl = true then errV 5 else Value.nilIface) := ⟨fail, unhide HEV⟩
    clear HNO HS2
    subst hfl
    cases fl with
    | true =>
      have hne := run_neq_errV w5 5
      go_wp2
      go_ret
      obtain ⟨L, hl, hpot, hG, hnum, hc, hacc, hq', t1, t2, t3, hx2, hb, hI, hq4, hfit, hF0, b0⟩ := unhide HH
      obtain ⟨bt, bc, hF, hBe, htb⟩ := unhide HW
      obtain ⟨_, d', R', u1, f1, D1, b1, st, fnd, ar, l1⟩ := unhide HP
      have hf : fail = true := by
        have h := unhide HEV
        cases fail with
        | false => exact absurd h (by simp [errV])
        | true => rfl
      have hgO : ∀ k, k = g ∧ 0 < cap → O k := fun k t => by rw [t.1]; exact (hI.own t.2).1
      refine ⟨fail, by rw [← unhide HEV]; rfl, d', R', fun k hk => u1 k (Nat.lt_of_lt_of_le hk hF.size), (hF.mono (fun k _ t => .inr (hgO k t))).trans f1 (fun k _ t => t.imp id (fun e => by rw [e]; exact L.qm.oq)), D1, st, fnd, ar, fun _ => ⟨_, b1, by rw [hf]; rfl, by rw [u1 qb (Nat.lt_of_lt_of_le hb.lt hF.size)]; exact (L.qm.own qb L.qm.oq).2.1⟩, fun h0 => absurd (hf.symm.trans h0) (by decide)⟩
    | false =>
      have HBC : Hid (∀ u, Fr (fun _ => False) w5 u → Calls Tryz.prog 77 #[.pointer (some ⟨qb, 0, none⟩), .agg #[.int .i64 (ac : Int), .slice io' nn cap']] u fun e w' => e = .returned (.tuple #[]) ∧ Hid (Bx w' qb (qbox (q.behind c).acked io' (q.behind c).items.length cap' l false lim) 120 ∧ Fr (fun k => k = qb ∨ (k = g ∧ 0 < cap)) w5 w' ∧ ∃ g2 off2, RI (fun k => (O k ∧ k ≠ qb) ∨ (w.heap.size ≤ k ∧ k < W.heap.size)) w' io' cap' g2 off2 (q.behind c).items)) := by
        obtain ⟨L, hl, hpot, hG, hnum, hc, hacc, hq', t1, t2, t3, hx2, hb, hI, hq4, hfit, hF0, b0⟩ := unhide HH
        obtain ⟨bt, bc, hF, hBe, htb⟩ := unhide HW
        obtain ⟨_, d', R', u1, f1, D1, b1, st, fnd, ar, l1⟩ := unhide HP
        have hf : fail = false := by
          have h := unhide HEV
          cases fail with
          | true => exact absurd h (by simp [errV])
          | false => rfl
        subst hf
        have hz := L.ls.dn.dk.zero
        have hB5 := hBe.frame f1 (fun k hk t => by
          rcases hk with hk | hk
          · rcases t with t | t
            · exact t (L.qm.own k hk.1).2.1
            · exact hk.2 t
          · rcases t with t | t
            · exact t (hz k hk.1)
            · have := hb.lt; omega)
        refine hide (fun u hu => ?_)
        have hbc := become_all _ u q io cap g off c hc hq4 hacc io' cap' g' off' (hB5.frame hu (fun _ _ t => t)) qb _ _ (b1.keep hu) (fun t => by rcases t with t | t; (· exact t.2 rfl); (· have := hb.lt; omega)) rfl rfl
        rw [← (unhide HAC).1, ← (unhide HAC).2] at hbc
        refine hbc.mono ?_
        rintro e w' ⟨rfl, k1, k2, k3⟩
        refine ⟨rfl, hide ⟨?_, (hu.mono (fun _ _ t => t.elim)).trans k2 (fun _ _ t => t), k3⟩⟩
        rw [← (unhide HAC).1, ← (unhide HAC).2]
        exact k1
      have HS3 : Hid (∀ w', (∃ S : Nat → Prop, Fr S w5 w' ∧ ¬ S tb) → w'.cell? ⟨tb, 0, none⟩ = some (.int .i64 (ac : Int)) ∧ w'.cell? ⟨tb, 1, none⟩ = some (.slice io' nn cap')) := by
        obtain ⟨bt, bc, hF, hBe, htb⟩ := unhide HW
        obtain ⟨_, d', R', u1, f1, D1, b1, st, fnd, ar, l1⟩ := unhide HP
        have bt5 := bt.frame f1 (unhide HRZ tb (by omega) bt.lt)
        rw [← (unhide HAC).1, ← (unhide HAC).2] at bt5
        exact hide (fun w' ⟨S, hf, hS⟩ => ⟨(bt5.frame hf hS).cell 0, (bt5.frame hf hS).cell 1⟩)
      have HTB : Hid (¬ (tb = qb ∨ (tb = g ∧ 0 < cap))) := by
        obtain ⟨L, hl, hpot, hG, hnum, hc, hacc, hq', t1, t2, t3, hx2, hb, hI, hq4, hfit, hF0, b0⟩ := unhide HH
        obtain ⟨bt, bc, hF, hBe, htb⟩ := unhide HW
        refine hide (fun t => ?_)
        rcases t with t | t
        · have := hb.lt; omega
        · have := (unhide HGN).2 t.2; omega
      go_wp2
      go_region_held3 (fun w' => w'.cell? ⟨tb, 0, none⟩ = some (.int .i64 (ac : Int)) ∧ w'.cell? ⟨tb, 1, none⟩ = some (.slice io' nn cap')) (first | exact unhide HS3 _ ⟨fun _ => False, Fr.refl _ _, fun t => t⟩ | exact unhide HS3 _ ⟨fun _ => False, (Fr.refl _ _).drew, fun t => t⟩ | exact unhide HS3 _ ⟨_, (unhide HV).2.1, unhide HTB⟩) (first | (go_at_call 77; refine (unhide HBC _ ((Fr.refl _ _).drew)).mono ?_; rintro e w6 ⟨rfl, HV⟩))
      go_wp2
      go_ret
      obtain ⟨L, hl, hpot, hG, hnum, hc, hacc, hq', t1, t2, t3, hx2, hb, hI, hq4, hfit, hF0, b0⟩ := unhide HH
      obtain ⟨bt, bc, hF, hBe, htb⟩ := unhide HW
      obtain ⟨_, d', R', u1, f1, D1, b1, st, fnd, ar, l1⟩ := unhide HP
      obtain ⟨v1, v2, g2, off2, v3⟩ := unhide HV
      have hf : fail = false := by
        have h := unhide HEV
        cases fail with
        | true => exact absurd h (by simp [errV])
        | false => rfl
      obtain ⟨G', h', a', rs', s', num', k1, k2, k3, k4, k5, k6⟩ := l1 hf
      have hz := L.ls.dn.dk.zero
      have h4 := L.ls.dn.tab.1.pos
      have hgO : ∀ k, k = g ∧ 0 < cap → O k := fun k t => by rw [t.1]; exact (hI.own t.2).1
      have uw : UpR w R R' := fun k hk => u1 k (Nat.lt_of_lt_of_le hk hF.size)
      have hv : ∀ k, k < w5.heap.size → k = qb ∨ (k = g ∧ 0 < cap) → R' k = 0 ∧ k ≠ 1 := fun k _ t => by
        have hO : O k := by rcases t with t | t; (· rw [t]; exact L.qm.oq); (· exact hgO k t)
        rw [uw k (L.qm.own k hO).1]
        exact (L.qm.own k hO).2
      have ht : qOf rs' = some (q.behind c) := by
        rcases k6 with e | e
        · rw [e]; exact qOf_snoc_ok L.told hc (unhide HMAY)
        · rw [e]; exact qOf_recs _ (hq'.mono hl.le)
      refine ⟨fail, by rw [← unhide HEV]; rfl, d', R', uw, ((hF.mono (fun k _ t => .inr (hgO k t))).trans f1 (fun k _ t => t.imp id (fun e => by rw [e]; exact L.qm.oq))).trans v2 (fun k _ t => .inr (by rcases t with t | t; (· rw [t]; exact L.qm.oq); (· exact hgO k t))), D1.own v2 (fun k hk t => hv k hk t), st, fnd, ar, fun h0 => absurd (hf.symm.trans h0) (by decide), fun _ => ⟨G', h', a', rs', s', num', fun k => O k ∨ (w.heap.size ≤ k ∧ k < W.heap.size), k1, k2, ⟨k3.own v2 (fun k hk t => hv k hk t), ⟨⟨io', cap', g2, off2, v1, v3.mono (fun k _ t => ?_)⟩, .inl L.qm.oq, fun k hk => ?_⟩, ht, hq', k5⟩, k4, fun k hk t => ?_⟩⟩
      · rcases t with t | t
        · exact ⟨.inl t.1, t.2⟩
        · exact ⟨.inr t, by have := hb.lt; omega⟩
      · rcases hk with hk | hk
        · exact ⟨Nat.lt_of_lt_of_le (L.qm.own k hk).1 (Nat.le_trans hF.size (Nat.le_trans f1.size v2.size)), by rw [uw k (L.qm.own k hk).1]; exact (L.qm.own k hk).2.1, (L.qm.own k hk).2.2⟩
        · exact ⟨Nat.lt_of_lt_of_le hk.2 (Nat.le_trans f1.size v2.size), by rw [u1 k hk.2]; exact hz k hk.1, by omega⟩
      · rcases t with t | t
        · exact t
        · omega
  · skip
    obtain ⟨W, tb, hW, htb, HW⟩ : ∃ W tb, W = (w2.setCell ⟨w.heap.size + 1, 0, none⟩ (.int .i64 ((q.behind c).acked : Int))).setCell ⟨w.heap.size + 1, 1, none⟩ (.slice io' (q.behind c).items.length cap') ∧ tb = w.heap.size + 1 ∧ Hid (Bx W tb #[.int .i64 ((q.behind c).acked : Int), .slice io' (q.behind c).items.length cap'] 118 ∧ Bx W w.heap.size #[.int .i64 (c.k : Int), .int .i64 (c.s : Int), .slice xo c.it.length xc] 123 ∧ Fr (fun k => k = g ∧ 0 < cap) w W ∧ Beh (fun k => (O k ∧ k ≠ qb) ∨ (w.heap.size ≤ k ∧ k < W.heap.size)) W q.acked io cap g off q.items c io' cap' g' off' ∧ w.heap.size < tb) := by
      refine ⟨_, _, rfl, rfl, hide ?_⟩
      obtain ⟨L, hl, hpot, hG, hnum, hc, hacc, hq', t1, t2, t3, hx2, hb, hI, hq4, hfit, hF0, b0⟩ := unhide HH
      have bz := Bx.new (w.alloc (.cells #[.int .i64 (c.k : Int), .int .i64 (c.s : Int), .slice xo c.it.length xc] 123)) #[.int .i64 0, .slice none 0 0] 118
      simp only [heap_alloc] at bz
      have f0 : Fr (fun k => k = g ∧ 0 < cap) w w2 := (((hF0.alloc _).drew).mono (fun _ _ t => t.elim)).trans (unhide hF2) (fun _ _ t => t)
      have f1 : Fr (fun k => k = w.heap.size + 1) w2 ((w2.setCell ⟨w.heap.size + 1, 0, none⟩ (.int .i64 ((q.behind c).acked : Int))).setCell ⟨w.heap.size + 1, 1, none⟩ (.slice io' (q.behind c).items.length cap')) := ((Fr.refl (fun k => k = w.heap.size + 1) _).setCell (fun _ => rfl) _).setCell (fun _ => rfl) _
      have hgl : 0 < cap → g < w.heap.size := (unhide HGN).2
      have e1 := bz.drew.frame (unhide hF2) (fun t => by have := hgl t.2; omega)
      have e2 := ((b0.alloc (.cells #[.int .i64 0, .slice none 0 0] 118)).drew.frame (unhide hF2) (fun t => by have := hgl t.2; omega)).frame f1 (by omega)
      refine ⟨(e1.setCell 0 _).setCell 1 _, e2, f0.trans f1 (fun k hk t => by omega), ((unhide hBeh).frame f1 (fun k hk t => ?_)).mono (fun k hk t => ?_), by omega⟩
      · rcases hk with hk | hk
        · have := (L.qm.own k hk.1).1; omega
        · simp at hk; omega
      · rcases t with t | t
        · exact .inl t
        · simp at t; exact .inr ⟨by omega, hk⟩
    clear y0 y1 y2 y3
    rw [← hW, ← htb]
    clear hW htb hBeh hF2 HB HS HZB
    obtain ⟨ac, hac⟩ : ∃ x, x = (q.behind c).acked := ⟨_, rfl⟩
    obtain ⟨nn, hnn⟩ : ∃ x, x = (q.behind c).items.length := ⟨_, rfl⟩
    have HS2 : Hid (∀ w', (∃ S : Nat → Prop, Fr S W w' ∧ (∀ k, w.heap.size ≤ k → k < W.heap.size → ¬ S k)) → w'.cell? ⟨w.heap.size, 0, none⟩ = some (.int .i64 (c.k : Int)) ∧ w'.cell? ⟨w.heap.size, 1, none⟩ = some (.int .i64 (c.s : Int)) ∧ w'.cell? ⟨w.heap.size, 2, none⟩ = some (.slice xo c.it.length xc) ∧ w'.cell? ⟨tb, 0, none⟩ = some (.int .i64 ((q.behind c).acked : Int)) ∧ w'.cell? ⟨tb, 1, none⟩ = some (.slice io' (q.behind c).items.length cap')) := by
      obtain ⟨bt, bc, hF, hBe, htb⟩ := unhide HW
      exact hide (fun w' ⟨S, hf, hS⟩ => ⟨(bc.frame hf (hS _ (Nat.le_refl _) bc.lt)).cell 0, (bc.frame hf (hS _ (Nat.le_refl _) bc.lt)).cell 1, (bc.frame hf (hS _ (Nat.le_refl _) bc.lt)).cell 2, (bt.frame hf (hS _ (by omega) bt.lt)).cell 0, (bt.frame hf (hS _ (by omega) bt.lt)).cell 1⟩)
    have HNO : Hid (∀ u, Fr (fun _ => False) W u → Calls Tryz.prog 76 #[.pointer (some ⟨qb, 2, none⟩), .agg #[.int .i64 (c.k : Int), .int .i64 (c.s : Int), .slice xo c.it.length xc], .agg #[.int .i64 ((q.behind c).acked : Int), .slice io' (q.behind c).items.length cap']] u fun e w' => ∃ (fail : Bool) (ev : Value), e = .returned ev ∧ Hid (ev = (if fail then errV 5 else .nilIface)) ∧ Hid (NotePost W R hp b p l n d G num rs c.raw (q.behind c) Tl qb (qbox q.acked io q.items.length cap l false lim) 120 (.returned (if fail then errV 5 else .nilIface)) w' ∧ (∃ d' R', UpR W R R' ∧ Fr (fun k => R k ≠ 0 ∨ k = qb) W w' ∧ Dn w' R' hp b n d' ∧ Bx w' qb ((qbox q.acked io q.items.length cap l false lim).setIfInBounds 3 (.bool fail)) 120 ∧ Stp d d' fail (180 * hlf n + 6) ∧ Fnd n d' (G + 1 + hlf n) Tl ∧ (d.armed = false → fail = false) ∧ (fail = false → ∃ G' h' a' rs' s' num', G' ≤ G + 1 + hlf n ∧ num' ≤ num + 1 ∧ LS w' R' hp b p l n d' G' h' a' rs' s' num' ∧ Tl rs' s' ∧ s' ≤ rs'.length ∧ (rs' = rs ++ [c.raw] ∨ rs' = qrecs (q.behind c)))))) := by
      obtain ⟨L, hl, hpot, hG, hnum, hc, hacc, hq', t1, t2, t3, hx2, hb, hI, hq4, hfit, hF0, b0⟩ := unhide HH
      obtain ⟨bt, bc, hF, hBe, htb⟩ := unhide HW
      refine hide (fun u hu => ?_)
      have hgo : ∀ k, k < w.heap.size → k = g ∧ 0 < cap → R k = 0 ∧ k ≠ 1 := fun k _ t => by rw [t.1]; exact (L.qm.own g (hI.own t.2).1).2
      have LW := (L.ls.own hF hgo).keep hu
      obtain ⟨g5, o5, hIt⟩ := hBe.after
      have hqb := (hb.frame hF (fun t => (unhide HGN).1 t.2 t.1.symm)).keep hu
      have hxu : BAt u xo xc c.it := by
        obtain ⟨ao, cc, e, hbt, hk⟩ := (hx2.frame hF (fun k hk t => hk.2 t.2 t.1)).frame hu (fun _ _ t => t)
        injection e with e1 e2 e3
        subst e1 e3
        exact hbt
      refine (note_any LW hl.four hl.max hpot hG hnum c hc (q.behind c) (hq'.mono hl.le) hfit Tl t1 t2 t3 L.sle xo xc hxu _ io' cap' g5 o5 (hIt.keep hu) qb _ _ hqb (L.qm.own qb L.qm.oq).2.1 rfl _ rfl (L.qm.own qb L.qm.oq).2.2).mono ?_
      rintro e w' ⟨fail, d', R', he, u1, f1, D1, b1, st, fnd, ar, l1⟩
      have u1' : UpR W R R' := fun k hk => u1 k (Nat.lt_of_lt_of_le hk hu.size)
      have f1' : Fr (fun k => R k ≠ 0 ∨ k = qb) W w' := (hu.mono (fun _ _ t => t.elim)).trans f1 (fun _ _ t => t)
      exact ⟨fail, _, he, hide rfl, hide ⟨⟨fail, d', R', rfl, u1', f1', D1, b1, st, fnd, ar, l1⟩, d', R', u1', f1', D1, b1, st, fnd, ar, l1⟩⟩
    have HRZ : Hid (∀ k, w.heap.size ≤ k → k < W.heap.size → ¬ (R k ≠ 0 ∨ k = qb)) := by
      obtain ⟨L, hl, hpot, hG, hnum, hc, hacc, hq', t1, t2, t3, hx2, hb, hI, hq4, hfit, hF0, b0⟩ := unhide HH
      have hz := L.ls.dn.dk.zero
      exact hide (fun k h1 h2 t => by rcases t with t | t; (· exact t (hz k h1)); (· have := hb.lt; omega))
    rw [← hac, ← hnn] at HS2 HNO ⊢
    have HAC := hide (And.intro hac hnn)
    clear hac hnn
    go_wp2
    go_region_held3 (fun w' => w'.cell? ⟨w.heap.size, 0, none⟩ = some (.int .i64 (c.k : Int)) ∧ w'.cell? ⟨w.heap.size, 1, none⟩ = some (.int .i64 (c.s : Int)) ∧ w'.cell? ⟨w.heap.size, 2, none⟩ = some (.slice xo c.it.length xc) ∧ w'.cell? ⟨tb, 0, none⟩ = some (.int .i64 (ac : Int)) ∧ w'.cell? ⟨tb, 1, none⟩ = some (.slice io' nn cap')) (first | exact unhide HS2 _ ⟨fun _ => False, Fr.refl _ _, fun _ _ _ t => t⟩ | exact unhide HS2 _ ⟨fun _ => False, (Fr.refl _ _).drew, fun _ _ _ t => t⟩ | exact unhide HS2 _ ⟨fun k => R k ≠ 0 ∨ k = qb, (unhide HP).2.choose_spec.choose_spec.2.1, unhide HRZ⟩) (first | (go_at_call 76; refine (unhide HNO _ ((Fr.refl _ _).drew)).mono ?_; rintro e w5 ⟨fail, ev, rfl, HEV, HP⟩))
    obtain ⟨fl, hfl⟩ : ∃ fl : Bool, ev = (if fl = true then errV 5 else Value.nilIface) := ⟨fail, unhide HEV⟩
    clear HNO HS2
    subst hfl
    cases fl with
    | true =>
      have hne := run_neq_errV w5 5
      go_wp2
      go_ret
      obtain ⟨L, hl, hpot, hG, hnum, hc, hacc, hq', t1, t2, t3, hx2, hb, hI, hq4, hfit, hF0, b0⟩ := unhide HH
      obtain ⟨bt, bc, hF, hBe, htb⟩ := unhide HW
      obtain ⟨_, d', R', u1, f1, D1, b1, st, fnd, ar, l1⟩ := unhide HP
      have hf : fail = true := by
        have h := unhide HEV
        cases fail with
        | false => exact absurd h (by simp [errV])
        | true => rfl
      have hgO : ∀ k, k = g ∧ 0 < cap → O k := fun k t => by rw [t.1]; exact (hI.own t.2).1
      refine ⟨fail, by rw [← unhide HEV]; rfl, d', R', fun k hk => u1 k (Nat.lt_of_lt_of_le hk hF.size), (hF.mono (fun k _ t => .inr (hgO k t))).trans f1 (fun k _ t => t.imp id (fun e => by rw [e]; exact L.qm.oq)), D1, st, fnd, ar, fun _ => ⟨_, b1, by rw [hf]; rfl, by rw [u1 qb (Nat.lt_of_lt_of_le hb.lt hF.size)]; exact (L.qm.own qb L.qm.oq).2.1⟩, fun h0 => absurd (hf.symm.trans h0) (by decide)⟩
    | false =>
      have HBC : Hid (∀ u, Fr (fun _ => False) w5 u → Calls Tryz.prog 77 #[.pointer (some ⟨qb, 0, none⟩), .agg #[.int .i64 (ac : Int), .slice io' nn cap']] u fun e w' => e = .returned (.tuple #[]) ∧ Hid (Bx w' qb (qbox (q.behind c).acked io' (q.behind c).items.length cap' l false lim) 120 ∧ Fr (fun k => k = qb ∨ (k = g ∧ 0 < cap)) w5 w' ∧ ∃ g2 off2, RI (fun k => (O k ∧ k ≠ qb) ∨ (w.heap.size ≤ k ∧ k < W.heap.size)) w' io' cap' g2 off2 (q.behind c).items)) := by
        obtain ⟨L, hl, hpot, hG, hnum, hc, hacc, hq', t1, t2, t3, hx2, hb, hI, hq4, hfit, hF0, b0⟩ := unhide HH
        obtain ⟨bt, bc, hF, hBe, htb⟩ := unhide HW
        obtain ⟨_, d', R', u1, f1, D1, b1, st, fnd, ar, l1⟩ := unhide HP
        have hf : fail = false := by
          have h := unhide HEV
          cases fail with
          | true => exact absurd h (by simp [errV])
          | false => rfl
        subst hf
        have hz := L.ls.dn.dk.zero
        have hB5 := hBe.frame f1 (fun k hk t => by
          rcases hk with hk | hk
          · rcases t with t | t
            · exact t (L.qm.own k hk.1).2.1
            · exact hk.2 t
          · rcases t with t | t
            · exact t (hz k hk.1)
            · have := hb.lt; omega)
        refine hide (fun u hu => ?_)
        have hbc := become_all _ u q io cap g off c hc hq4 hacc io' cap' g' off' (hB5.frame hu (fun _ _ t => t)) qb _ _ (b1.keep hu) (fun t => by rcases t with t | t; (· exact t.2 rfl); (· have := hb.lt; omega)) rfl rfl
        rw [← (unhide HAC).1, ← (unhide HAC).2] at hbc
        refine hbc.mono ?_
        rintro e w' ⟨rfl, k1, k2, k3⟩
        refine ⟨rfl, hide ⟨?_, (hu.mono (fun _ _ t => t.elim)).trans k2 (fun _ _ t => t), k3⟩⟩
        rw [← (unhide HAC).1, ← (unhide HAC).2]
        exact k1
      have HS3 : Hid (∀ w', (∃ S : Nat → Prop, Fr S w5 w' ∧ ¬ S tb) → w'.cell? ⟨tb, 0, none⟩ = some (.int .i64 (ac : Int)) ∧ w'.cell? ⟨tb, 1, none⟩ = some (.slice io' nn cap')) := by
        obtain ⟨bt, bc, hF, hBe, htb⟩ := unhide HW
        obtain ⟨_, d', R', u1, f1, D1, b1, st, fnd, ar, l1⟩ := unhide HP
        have bt5 := bt.frame f1 (unhide HRZ tb (by omega) bt.lt)
        rw [← (unhide HAC).1, ← (unhide HAC).2] at bt5
        exact hide (fun w' ⟨S, hf, hS⟩ => ⟨(bt5.frame hf hS).cell 0, (bt5.frame hf hS).cell 1⟩)
      have HTB : Hid (¬ (tb = qb ∨ (tb = g ∧ 0 < cap))) := by
        obtain ⟨L, hl, hpot, hG, hnum, hc, hacc, hq', t1, t2, t3, hx2, hb, hI, hq4, hfit, hF0, b0⟩ := unhide HH
        obtain ⟨bt, bc, hF, hBe, htb⟩ := unhide HW
        refine hide (fun t => ?_)
        rcases t with t | t
        · have := hb.lt; omega
        · have := (unhide HGN).2 t.2; omega
      go_wp2
      go_region_held3 (fun w' => w'.cell? ⟨tb, 0, none⟩ = some (.int .i64 (ac : Int)) ∧ w'.cell? ⟨tb, 1, none⟩ = some (.slice io' nn cap')) (first | exact unhide HS3 _ ⟨fun _ => False, Fr.refl _ _, fun t => t⟩ | exact unhide HS3 _ ⟨fun _ => False, (Fr.refl _ _).drew, fun t => t⟩ | exact unhide HS3 _ ⟨_, (unhide HV).2.1, unhide HTB⟩) (first | (go_at_call 77; refine (unhide HBC _ ((Fr.refl _ _).drew)).mono ?_; rintro e w6 ⟨rfl, HV⟩))
      go_wp2
      go_ret
      obtain ⟨L, hl, hpot, hG, hnum, hc, hacc, hq', t1, t2, t3, hx2, hb, hI, hq4, hfit, hF0, b0⟩ := unhide HH
      obtain ⟨bt, bc, hF, hBe, htb⟩ := unhide HW
      obtain ⟨_, d', R', u1, f1, D1, b1, st, fnd, ar, l1⟩ := unhide HP
      obtain ⟨v1, v2, g2, off2, v3⟩ := unhide HV
      have hf : fail = false := by
        have h := unhide HEV
        cases fail with
        | true => exact absurd h (by simp [errV])
        | false => rfl
      obtain ⟨G', h', a', rs', s', num', k1, k2, k3, k4, k5, k6⟩ := l1 hf
      have hz := L.ls.dn.dk.zero
      have h4 := L.ls.dn.tab.1.pos
      have hgO : ∀ k, k = g ∧ 0 < cap → O k := fun k t => by rw [t.1]; exact (hI.own t.2).1
      have uw : UpR w R R' := fun k hk => u1 k (Nat.lt_of_lt_of_le hk hF.size)
      have hv : ∀ k, k < w5.heap.size → k = qb ∨ (k = g ∧ 0 < cap) → R' k = 0 ∧ k ≠ 1 := fun k _ t => by
        have hO : O k := by rcases t with t | t; (· rw [t]; exact L.qm.oq); (· exact hgO k t)
        rw [uw k (L.qm.own k hO).1]
        exact (L.qm.own k hO).2
      have ht : qOf rs' = some (q.behind c) := by
        rcases k6 with e | e
        · rw [e]; exact qOf_snoc_ok L.told hc (unhide HMAY)
        · rw [e]; exact qOf_recs _ (hq'.mono hl.le)
      refine ⟨fail, by rw [← unhide HEV]; rfl, d', R', uw, ((hF.mono (fun k _ t => .inr (hgO k t))).trans f1 (fun k _ t => t.imp id (fun e => by rw [e]; exact L.qm.oq))).trans v2 (fun k _ t => .inr (by rcases t with t | t; (· rw [t]; exact L.qm.oq); (· exact hgO k t))), D1.own v2 (fun k hk t => hv k hk t), st, fnd, ar, fun h0 => absurd (hf.symm.trans h0) (by decide), fun _ => ⟨G', h', a', rs', s', num', fun k => O k ∨ (w.heap.size ≤ k ∧ k < W.heap.size), k1, k2, ⟨k3.own v2 (fun k hk t => hv k hk t), ⟨⟨io', cap', g2, off2, v1, v3.mono (fun k _ t => ?_)⟩, .inl L.qm.oq, fun k hk => ?_⟩, ht, hq', k5⟩, k4, fun k hk t => ?_⟩⟩
      · rcases t with t | t
        · exact ⟨.inl t.1, t.2⟩
        · exact ⟨.inr t, by have := hb.lt; omega⟩
      · rcases hk with hk | hk
        · exact ⟨Nat.lt_of_lt_of_le (L.qm.own k hk).1 (Nat.le_trans hF.size (Nat.le_trans f1.size v2.size)), by rw [uw k (L.qm.own k hk).1]; exact (L.qm.own k hk).2.1, (L.qm.own k hk).2.2⟩
        · exact ⟨Nat.lt_of_lt_of_le hk.2 (Nat.le_trans f1.size v2.size), by rw [u1 k hk.2]; exact hz k hk.1, by omega⟩
      · rcases t with t | t
        · exact t
        · omega

end

end Go.Proofs.YtjkghgcdkfkekaaGreatDoor

