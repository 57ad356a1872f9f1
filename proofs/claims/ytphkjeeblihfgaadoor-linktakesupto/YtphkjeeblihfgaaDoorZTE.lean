import Derived.Test.YtphkjeeblihfgaaDoorZTC
/- Contract: the document's Got. -/
namespace Go.Proofs.YtphkjeeblihfgaaDoor
open Go.RowKit Go.Maps

set_option maxHeartbeats 2000000 in
set_option maxRecDepth 20000 in
theorem rgot_none {w : World} {p : Nat} (f : Fm) (io : Option Addr) (ic : Nat) (bo : Option Addr) (bc : Nat) (hA : f.At w io bo bc) (hm : ¬ (f.kind = 1 ∧ f.may = true)) :
    Calls Tryd.prog 15 #[.pointer (some ⟨p, 0, none⟩), .agg (f.cells io ic bo bc)] w fun e w' => e = .returned (.slice none 0 0) ∧ Hid (Fr (fun _ => False) w w') := by
  obtain ⟨kd, ba, sq, its, bts⟩ := f
  have HA := hide (hA.later ((Fr.refl (fun _ => False) w).alloc (.cells #[.int .i64 kd, .int .i64 ba, .int .i64 sq, .slice io its.length ic, .slice bo bts.length bc] 36)))
  have HB := hide (Bx.new w #[.int .i64 kd, .int .i64 ba, .int .i64 sq, .slice io its.length ic, .slice bo bts.length bc] 36)
  clear hA
  cases hh : (Fm.mk kd ba sq its bts).may with
  | false =>
    have HM := hide hh
    clear hh hm
    simp only [Fm.cells]
    go_enter Tryd.func15, Tryd.ntmps15
    go_wp2_with fail
    refine (rmay_any _ ⟨kd, ba, sq, its, bts⟩ io ic bo bc (unhide HA)).mono ?_
    rw [unhide HM]
    rintro e w1 ⟨rfl, h1⟩
    go_wp2
    go_ret
    exact ⟨rfl, hide (((Fr.refl _ _).alloc _).trans (unhide h1) (fun _ _ t => t))⟩
  | true =>
    have hk : kd ≠ 1 := fun t => hm ⟨t, hh⟩
    have hkb : (kd != 1) = true := by simp [hk]
    have HM := hide hh
    clear hh hm hk
    simp only [Fm.cells]
    go_enter Tryd.func15, Tryd.ntmps15
    go_wp2_with fail
    refine (rmay_any _ ⟨kd, ba, sq, its, bts⟩ io ic bo bc (unhide HA)).mono ?_
    rw [unhide HM]
    rintro e w1 ⟨rfl, h1⟩
    have c0 : w1.cell? ⟨w.heap.size, 0, none⟩ = some (.int .i64 kd) := ((unhide HB).keep (unhide h1)).cell 0
    go_wp2
    go_ret
    exact ⟨rfl, hide (((Fr.refl _ _).alloc _).trans (unhide h1) (fun _ _ t => t))⟩

/-- What the loop of the document's Got holds. -/
structure GD (w : World) (p B : Nat) (n' : Int) (cs : Array Value) (acc : List Itm) (ro : Option Addr) (rc rb : Nat) (es : List (Int × RD)) (wr : World) : Prop where
  fr : Fr (fun k => k = p) w wr
  rv : RB wr p n'
  bx : Bx wr B cs 36
  ql : QL (w.heap.size + 1) wr ro rc rb es acc
  pB : p < w.heap.size ∧ B = w.heap.size

theorem GD.keep {w : World} {p B : Nat} {n' : Int} {cs : Array Value} {acc : List Itm} {ro : Option Addr} {rc rb : Nat} {es : List (Int × RD)} {wr w' : World} (h : GD w p B n' cs acc ro rc rb es wr) (k : Fr (fun _ => False) wr w') : GD w p B n' cs acc ro rc rb es w' :=
  ⟨h.fr.trans k (fun _ _ t => t.elim), h.rv.keep k, h.bx.keep k, h.ql.stay k (fun _ t => t.elim), h.pB⟩
theorem GD.next {w : World} {p B : Nat} {n' : Int} {cs : Array Value} {acc : List Itm} {ro ro' : Option Addr} {rc rb rc' rb' : Nat} {es : List (Int × RD)} {wr w' : World} (h : GD w p B n' cs acc ro rc rb es wr) {q : Int} {d : RD} {x : List UInt8} (hx : x.length ≤ 140737488355328)
    (hr : Row wr d.val d.g x) (hn : d.n = x.length) (hM : 0 < d.cap → w.heap.size + 1 ≤ d.g ∧ (0 < rc → d.g ≠ rb)) (k1 : KRow w' ro' rc' rb' 2 ((es.flatMap fun e => [.int .i64 e.1, e.2.val]) ++ [.int .i64 q, d.val])) (k2 : Grew wr rb rc w' rb' rc') : GD w p B n' cs (acc ++ [⟨q, x⟩]) ro' rc' rb' (es ++ [(q, d)]) w' := by
  have hp := h.pB
  have hz := h.fr.size
  have hb := h.bx.lt
  have hS : ∀ i, (i = rb ∧ 0 < rc) → w.heap.size + 1 ≤ i := fun i t => by have := h.ql.ib t.2; omega
  exact ⟨h.fr.trans k2.frZ (fun i hi t => by have := hS i t; omega), h.rv.frame k2.frZ (fun t => by have := hS _ t; omega), h.bx.frame k2.frZ (fun t => by have := hS _ t; omega), h.ql.next hx hr hn hM k1 k2 (by omega), h.pB⟩

set_option maxHeartbeats 4000000 in
set_option maxRecDepth 20000 in
theorem rgot_some {w : World} {p : Nat} {n : Int} (h : RB w p n) (hn : 0 ≤ n ∧ n ≤ 4294967296) (f : Fm) (io : Option Addr) (ic : Nat) (bo : Option Addr) (bc : Nat) (hA : ∀ u, Fr (fun k => k = p) w u → f.At u io bo bc) (hk : f.kind = 1) (hm : f.may = true) :
    Calls Tryd.prog 15 #[.pointer (some ⟨p, 0, none⟩), .agg (f.cells io ic bo bc)] w fun e w' => ∃ ro rc, e = .returned (.slice ro (gotF n f).2.length rc) ∧ Hid (RB w' p (gotF n f).1 ∧ ItsAt w' ro (gotF n f).2 ∧ Fr (fun k => k = p) w w' ∧ (gotF n f).2.length ≤ rc) := by
  obtain ⟨hb0, hi1, hi8, hba, hbs, hsq, hl⟩ := Fm.may_one hm hk
  have hg : gotF n f = (max n f.base, if max n f.base < f.seq then [] else gotL (max n f.base) f.seq f.items) := by unfold gotF; rw [if_pos ⟨hk, hm⟩]
  rw [hg]
  obtain ⟨kd, ba, sq, its, bts⟩ := f
  simp only at hk hb0 hi1 hi8 hba hbs hsq hl
  subst hk
  simp only [Fm.cells]
  have HM := hide hm
  have HA := hide hA
  have HL := hide hl
  have hplt := h.lt
  have HB := hide (Bx.new w #[.int .i64 1, .int .i64 ba, .int .i64 sq, .slice io its.length ic, .slice bo bts.length bc] 36)
  have HR := hide (Bx.alloc h (.cells #[.int .i64 1, .int .i64 ba, .int .i64 sq, .slice io its.length ic, .slice bo bts.length bc] 36))
  have HF0 : Hid (Fr (fun _ => False) w (w.alloc (.cells #[.int .i64 1, .int .i64 ba, .int .i64 sq, .slice io its.length ic, .slice bo bts.length bc] 36))) := hide ((Fr.refl _ _).alloc _)
  obtain ⟨n', hn'⟩ : ∃ n', max n ba = n' := ⟨_, rfl⟩
  rw [hn']
  obtain ⟨ans, hans⟩ : ∃ ans, (if n' < sq then [] else gotL n' sq its) = ans := ⟨_, rfl⟩
  rw [hans]
  have HANS := hide hans
  have HNUM := hide (And.intro hi1 (And.intro hi8 (And.intro hba (And.intro hbs (And.intro hsq (And.intro hn hn'))))))
  clear h hA hl hm hg hans hi1 hi8 hba hbs hsq hn hn' hb0
  go_enter Tryd.func15, Tryd.ntmps15
  go_wp2_with fail
  refine (rmay_any _ ⟨1, ba, sq, its, bts⟩ io ic bo bc ((unhide HA w (Fr.refl _ _)).later (unhide HF0))).mono ?_
  rw [unhide HM]
  rintro e w1 ⟨rfl, h1⟩
  have HB1 := hide ((unhide HB).keep (unhide h1))
  have HR1 : Hid (RB w1 p n) := hide (Bx.keep (unhide HR) (unhide h1))
  have HF1 := hide ((unhide HF0).trans (unhide h1) (fun _ _ t => t))
  obtain ⟨B, hBe⟩ : ∃ B, w.heap.size = B := ⟨_, rfl⟩
  rw [hBe] at HB1
  have HPB : Hid (p < w.heap.size ∧ B = w.heap.size) := hide ⟨hplt, hBe.symm⟩
  have c0 : w1.cell? ⟨p, 0, none⟩ = some (.int .i64 n) := Bx.cell (unhide HR1) 0
  have f0 : w1.frozen? ⟨p, 0, none⟩ = false := Bx.frozen (unhide HR1) 0
  have d0 : w1.cell? ⟨B, 0, none⟩ = some (.int .i64 1) := (unhide HB1).cell 0
  have d1 : w1.cell? ⟨B, 1, none⟩ = some (.int .i64 ba) := (unhide HB1).cell 1
  obtain ⟨bl, hbl⟩ : ∃ bl, decide (n < ba) = bl := ⟨_, rfl⟩
  have HIFE : Hid ((bl = true ∧ n' = ba) ∨ (bl = false ∧ n' = n)) := by
    have := (unhide HNUM).2.2.2.2.2.2
    by_cases t : n < ba
    · exact hide (.inl ⟨by rw [← hbl]; exact decide_eq_true t, by omega⟩)
    · exact hide (.inr ⟨by rw [← hbl]; exact decide_eq_false t, by omega⟩)
  have HG0 : Hid (∀ nq, RB (w1.drewN nq) p n ∧ Bx (w1.drewN nq) B #[.int .i64 1, .int .i64 ba, .int .i64 sq, .slice io its.length ic, .slice bo bts.length bc] 36 ∧ Fr (fun _ => False) w (w1.drewN nq)) := hide (fun nq => ⟨(unhide HR1).keep ((Fr.refl _ _).drewN nq), (unhide HB1).keep ((Fr.refl _ _).drewN nq), (unhide HF1).drewN nq⟩)
  rw [hBe]
  have HBE := hide hBe
  clear hBe HB HR h1 HR1 HB1 HF1 HF0
  go_upto_region 4 with (fail)
  go_quiet (fail)
  go_upto_if 23 with (fail)
  have HQ := hide (unhide HG0 nq)
  clear HG0 c0 f0 d0 d1 hbl
  generalize w1.drewN nq = W1 at *
  have c0 : W1.cell? ⟨p, 0, none⟩ = some (.int .i64 n) := Bx.cell (unhide HQ).1 0
  have f0 : W1.frozen? ⟨p, 0, none⟩ = false := Bx.frozen (unhide HQ).1 0
  have d1 : W1.cell? ⟨B, 1, none⟩ = some (.int .i64 ba) := (unhide HQ).2.1.cell 1
  go_cut [] from 17 to 28 (fun wc => Hid (GD w p B n' #[.int .i64 1, .int .i64 ba, .int .i64 sq, .slice io its.length ic, .slice bo bts.length bc] [] none 0 0 [] wc))
  case first =>
    rcases unhide HIFE with ⟨t1, t2⟩ | ⟨t1, t2⟩
    · subst t1
      have HE : Hid (GD w p B n' #[.int .i64 1, .int .i64 ba, .int .i64 sq, .slice io its.length ic, .slice bo bts.length bc] [] none 0 0 [] (W1.setCell ⟨p, 0, none⟩ (.int .i64 ba))) := by
        obtain ⟨q1, q2, q3⟩ := unhide HQ
        refine hide ⟨Fr.setCell (S := fun k => k = p) (q3.mono (fun _ _ t => t.elim)) (p := ⟨p, 0, none⟩) (fun _ => rfl) _, by rw [t2]; have := Bx.setCell q1 0 (.int .i64 ba); exact this, q2.setOther (by have := unhide HPB; omega) 0 _, QL.nil _ _ _, unhide HPB⟩
      clear t2
      go_wp2
      go_meet
      exact HE
    · subst t1
      have HE : Hid (GD w p B n' #[.int .i64 1, .int .i64 ba, .int .i64 sq, .slice io its.length ic, .slice bo bts.length bc] [] none 0 0 [] W1) := by
        obtain ⟨q1, q2, q3⟩ := unhide HQ
        exact hide ⟨q3.mono (fun _ _ t => t.elim), by rw [t2]; exact q1, q2, QL.nil _ _ _, unhide HPB⟩
      clear t2
      go_wp2
      go_meet
      exact HE
  case rest =>
    have HG := hcut
    clear hcut HQ HIFE c0 f0 d1
    have HNN : Hid (0 ≤ n' ∧ n' ≤ 4294967296) := hide (by obtain ⟨a1, a2, a3, a4, a5, a6, a7⟩ := unhide HNUM; omega)
    have c0 : wc.cell? ⟨p, 0, none⟩ = some (.int .i64 n') := Bx.cell (unhide HG).rv 0
    have d2 : wc.cell? ⟨B, 2, none⟩ = some (.int .i64 sq) := (unhide HG).bx.cell 2
    have d3 : wc.cell? ⟨B, 3, none⟩ = some (.slice io its.length ic) := (unhide HG).bx.cell 3
    by_cases hlt : n' < sq
    · have hd : decide (n' < sq) = true := by simp [hlt]
      have HAN : Hid (ans = []) := hide (by rw [← unhide HANS, if_pos hlt])
      clear hlt
      go_upto_region 7 with (fail)
      go_quiet (fail)
      go_wp2
      go_ret
      rw [unhide HAN]
      have hg := (unhide HG)
      exact ⟨none, 0, rfl, hide ⟨Bx.keep hg.rv ((Fr.refl _ _).drewN _), ⟨fun h0 => absurd h0 (by simp), by simp⟩, hg.fr.drewN _, by simp⟩⟩
    · have hd : decide (n' < sq) = false := by simp; omega
      have HAN : Hid (ans = gotL n' sq its) := hide (by rw [← unhide HANS, if_neg hlt])
      clear hlt
      go_upto_region 7 with (fail)
      go_quiet (fail)
      have HGD := hide ((unhide HG).keep ((Fr.refl (fun _ => False) wc).drewN nq))
      go_wp2
      obtain ⟨infoI, hii, hzi⟩ := Option.map_eq_some_iff.1 infoIt
      simp only [Prod.mk.injEq] at hzi
      have HII := hide (And.intro hii hzi)
      obtain ⟨i0, hi0, hz0, hz1, hz2⟩ := info_parts Tryd.info5
      have HI0 := hide (And.intro hi0 (And.intro hz0 (And.intro hz1 hz2)))
      clear hii hzi hi0 hz0 hz1 hz2
      go_loopw [6, 7] (fun fv iv wr => ∃ (i : Nat) (ro : Option Addr) (rc rb : Nat) (es : List (Int × RD)), i ≤ its.length ∧ fv = .slice ro es.length rc ∧ iv = .int .i64 i ∧ Hid (GD w p B n' #[.int .i64 1, .int .i64 ba, .int .i64 sq, .slice io its.length ic, .slice bo bts.length bc] (gotL n' sq (its.take i)) ro rc rb es wr)) (fun _ iv _ => its.length - (intOf iv).toNat)
      case atStart => exact ⟨0, none, 0, 0, [], Nat.zero_le _, rfl, rfl, HGD⟩
      case round =>
        obtain ⟨i, ro, rc, rb, es, hi, rfl, rfl, HK⟩ := hrel
        have e3 : wr.cell? ⟨B, 3, none⟩ = some (.slice io its.length ic) := (unhide HK).bx.cell 3
        by_cases hil : i < its.length
        · have hiI : (i : Int) < (its.length : Int) := by omega
          have HAR := (unhide HA wr (unhide HK).fr).items
          obtain ⟨bi, off, e, hc⟩ := HAR.cells (by show 0 < its.length; omega)
          obtain ⟨ao, cap, k1, k3⟩ := hc i hil
          subst e
          clear hc HAR
          have HTK := hide (gotL_append n' sq its i hil)
          have hl256 := unhide HL its[i] (List.getElem_mem hil)
          simp only at k1 k3
          generalize its[i] = x at *
          have e0 : wr.cell? ⟨p, 0, none⟩ = some (.int .i64 n') := Bx.cell (unhide HK).rv 0
          have e2 : wr.cell? ⟨B, 2, none⟩ = some (.int .i64 sq) := (unhide HK).bx.cell 2
          obtain ⟨hs1, hs2, hi8⟩ : 0 ≤ sq ∧ sq ≤ 4294967296 ∧ its.length ≤ 8 := by obtain ⟨a1, a2, a3, a4, a5, a6, a7⟩ := unhide HNUM; omega
          have hi8I : (i : Int) ≤ 8 := by omega
          by_cases hge : n' ≤ sq + (i : Int)
          · have hd1 : decide (sq + (i : Int) ≥ n') = true := by simp; omega
            have hd2 : decide (n' ≤ sq + (i : Int)) = true := hd1
            have HTT : Hid (gotL n' sq (its.take (i + 1)) = gotL n' sq (its.take i) ++ [⟨sq + (i : Int), x⟩]) := hide (by rw [unhide HTK, if_pos hge])
            have HEL : Hid (es.length = (gotL n' sq (its.take i)).length ∧ (gotL n' sq (its.take i)).length ≤ 8) := hide ⟨(unhide HK).ql.n1, Nat.le_trans (gotL_length _ _ _) (by rw [List.length_take]; omega)⟩
            have HBT := hide (fun u (hu : Fr (fun _ => False) wr u) => k3.later hu)
            clear hge k3 HTK
            go_upto_region 12 with (fail)
            go_quiet (fail)
            go_upto_region 13 with (fail)
            have HKQ := hide ((unhide HK).keep ((Fr.refl (fun _ => False) wr).drewN nq))
            have HBQ := hide (fun u (hu : Fr (fun _ => False) (wr.drewN nq) u) => unhide HBT u (((Fr.refl (fun _ => False) wr).drewN nq).trans hu (fun _ _ t => t)))
            have k1q : (wr.drewN nq).cell? ⟨bi, off + i, none⟩ = some (.slice ao x.length cap) := k1
            clear e0 e2 e3 k1 HBT
            generalize wr.drewN nq = wq at *
            have q2 : wq.cell? ⟨B, 2, none⟩ = some (.int .i64 sq) := (unhide HKQ).bx.cell 2
            have q3 : wq.cell? ⟨B, 3, none⟩ = some (.slice (some ⟨bi, off, none⟩) its.length ic) := (unhide HKQ).bx.cell 3
            have HKZ := hide ((unhide HKQ).keep ((Fr.refl (fun _ => False) wq).alloc (.cells #[] 5)))
            have z2 : (wq.alloc (.cells #[] 5)).cell? ⟨B, 2, none⟩ = some (.int .i64 sq) := (unhide HKZ).bx.cell 2
            have z3 : (wq.alloc (.cells #[] 5)).cell? ⟨B, 3, none⟩ = some (.slice (some ⟨bi, off, none⟩) its.length ic) := (unhide HKZ).bx.cell 3
            have zk : (wq.alloc (.cells #[] 5)).cell? ⟨bi, off + i, none⟩ = some (.slice ao x.length cap) := (World.cell?_alloc_lt _ _ _ (World.block_lt_of_cell? _ _ k1q)).trans k1q
            have hwrp : IntKind.i64.wrap (sq + (i : Int)) = sq + (i : Int) := by rw [IntKind.wrap_i64]; omega
            go_region_law (first | (refine step_copy rfl (.tmp 57) (.tmp 62) 34 34 rfl 5 i0 Tryd.underlying34 Tryd.underlying34 (unhide HI0).1 (unhide HI0).2.1 (unhide HI0).2.2.1 (unhide HI0).2.2.2 rfl ao cap x rfl (unhide HBQ _ (((Fr.refl _ _).drew).alloc _)) ?_; intro xo8 xc8 w8 g8 r1 r2 r3; have HK8 := hide (((unhide HKQ).keep (((Fr.refl (fun _ => False) wq).drew).alloc (.cells #[] 5))).keep r2); have HR8 := hide (And.intro r1 r3); have y2 : w8.cell? ⟨B, 2, none⟩ = some (.int .i64 sq) := (unhide HK8).bx.cell 2; have HKA := hide ((unhide HK8).keep ((Fr.refl (fun _ => False) w8).alloc (.cells #[.int .i64 (sq + (i : Int)), .slice xo8 x.length xc8] 47))); have HSR := hide (src_one (P := Tryd.prog) w8 [.int .i64 (sq + (i : Int)), .slice xo8 x.length xc8] 40 47 2 Tryd.underlying40 rfl (fun u hu => by simp only [List.mem_cons, List.not_mem_nil, or_false] at hu; rcases hu with rfl | rfl <;> rfl) (W := w8.alloc (.cells #[.int .i64 (sq + (i : Int)), .slice xo8 x.length xc8] 47)) (fun j => by rw [World.cell?_alloc_new]; simp)); clear r1 r2 r3) | (refine step_append_krow rfl (.tmp 52) (.tmp 65) 40 40 rfl 47 infoI _ 2 (by omega) Tryd.underlying40 (unhide HII).1 (unhide HII).2.1 rfl (unhide HII).2.2.1 (ao := ro) (cap := rc) (g := rb) (n := es.length) rfl (unhide HKA).ql.row (flat2_len es) _ [.int .i64 (sq + (i : Int)), .slice xo8 x.length xc8] 1 rfl (unhide HSR) (by rw [(unhide HII).2.2.2]; have := (unhide HEL); omega) (by have := (unhide HEL); omega) ?_; intro ro9 rc9 w9 rb9 hkr hgr; have HG9 := hide (And.intro hkr hgr); clear hkr hgr))
            all_goals
              have HN : Hid (GD w p B n' #[.int .i64 1, .int .i64 ba, .int .i64 sq, .slice (some ⟨bi, off, none⟩) its.length ic, .slice bo bts.length bc] (gotL n' sq (its.take i) ++ [⟨sq + (i : Int), x⟩]) ro9 rc9 rb9 (es ++ [(sq + (i : Int), ⟨xo8, x.length, xc8, g8⟩)]) w9) := by
                obtain ⟨hkr, hgr⟩ := unhide HG9
                have h8 : wq.heap.size + 1 ≤ g8 := by
                  have h := (unhide HR8).2
                  have e1 : (wq.alloc (.cells #[] 5)).drew.heap.size = wq.heap.size + 1 := heap_alloc wq _
                  omega
                have h2 := (unhide HKQ).fr.size
                have h3 := (unhide HKQ).bx.lt
                have h4 := (unhide HKQ).pB.2
                exact hide ((unhide HKA).next (d := ⟨xo8, x.length, xc8, g8⟩) (x := x) (by omega) ((unhide HR8).1.frame ((Fr.refl (fun _ => False) _).alloc _) (fun t => t)) rfl (fun _ => by
                  refine ⟨by show w.heap.size + 1 ≤ g8; omega, fun hc => ?_⟩
                  have h5 := (unhide HKQ).ql.row.lt (by omega) hc
                  show g8 ≠ rb
                  omega) hkr hgr)
              clear HG9 HKA HK8 HR8 HSR y2 z2 z3 zk HKZ q2 q3 k1q HBQ HKQ hwrp
              go_wp2
              exact ⟨⟨i + 1, ro9, rc9, rb9, es ++ [(sq + (i : Int), ⟨xo8, x.length, xc8, g8⟩)], by omega, by rw [List.length_append, List.length_singleton], by go_num, hide (by rw [unhide HTT]; exact unhide HN)⟩, by simp [intOf]; omega⟩
          · have hd1 : decide (sq + (i : Int) ≥ n') = false := by simp; omega
            have hd2 : decide (n' ≤ sq + (i : Int)) = false := hd1
            have HTT : Hid (gotL n' sq (its.take (i + 1)) = gotL n' sq (its.take i)) := hide (by rw [unhide HTK, if_neg hge, List.append_nil])
            clear hge k3 HTK
            go_upto_region 12 with (fail)
            go_quiet (fail)
            have HKQ := hide ((unhide HK).keep ((Fr.refl (fun _ => False) wr).drewN nq))
            go_wp2
            exact ⟨⟨i + 1, ro, rc, rb, es, by omega, rfl, by go_num, hide (by rw [unhide HTT]; exact unhide HKQ)⟩, by simp [intOf]; omega⟩
        · obtain rfl : i = its.length := by omega
          have HKE : Hid (GD w p B n' #[.int .i64 1, .int .i64 ba, .int .i64 sq, .slice io its.length ic, .slice bo bts.length bc] ans ro rc rb es wr) := hide (by rw [unhide HAN]; have := unhide HK; rw [List.take_length] at this; exact this)
          have HEL : Hid (es.length = ans.length) := hide (unhide HKE).ql.n1
          clear HK HGD HG
          go_wp2
          go_ret
          have hk := unhide HKE
          refine ⟨ro, rc, by rw [← unhide HEL]; rfl, hide ⟨hk.rv, hk.ql.its (by rw [unhide HAN]; have := gotL_length n' sq its; have := (unhide HNUM).2.1; omega), hk.fr, ?_⟩⟩
          have := hk.ql.row.le
          rw [flat2_len, unhide HEL] at this
          omega

end Go.Proofs.YtphkjeeblihfgaaDoor

