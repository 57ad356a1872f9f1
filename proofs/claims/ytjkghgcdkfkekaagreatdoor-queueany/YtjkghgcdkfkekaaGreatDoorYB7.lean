import Derived.Test.YtjkghgcdkfkekaaGreatDoorYB6
/- Contract: Crash. -/
namespace Go.Proofs.YtjkghgcdkfkekaaGreatDoor
open Go.RowKit

theorem kept_nil (l : List (Nat × Bs)) : kept l [] = [] := by cases l <;> rfl

theorem kept_take : ∀ (l : List (Nat × Bs)) (ks : List Bool) (i : Nat) (h : i < l.length), kept (l.take (i + 1)) ks = kept (l.take i) ks ++ (if ks.getD i false then [l[i]] else [])
  | [], _, _, h => by simp at h
  | p :: r, [], i, _ => by simp [kept_nil]
  | p :: r, k :: ks, 0, _ => by cases k <;> simp [kept]
  | p :: r, k :: ks, i + 1, h => by
    have ih := kept_take r ks i (by simpa using h)
    cases k <;> simp [kept, ih]

/-- What is kept, in memory. -/
structure KeepAt (w : World) (ko : Option Addr) (kc : Nat) (ks : List Bool) : Prop where
  cells : 0 < ks.length → ∃ b off, ko = some ⟨b, off, none⟩ ∧ ∀ j (hj : j < ks.length), w.cell? ⟨b, off + j, none⟩ = some (.bool ks[j])
  small : ks.length ≤ 140737488355328

theorem KeepAt.frame {S : Nat → Prop} {w w' : World} {ko : Option Addr} {kc : Nat} {ks : List Bool} (h : KeepAt w ko kc ks) (hF : Fr S w w') (hS : 0 < ks.length → ∀ b off, ko = some ⟨b, off, none⟩ → ¬ S b) : KeepAt w' ko kc ks := by
  refine ⟨fun h0 => ?_, h.small⟩
  obtain ⟨b, off, e, hc⟩ := h.cells h0
  exact ⟨b, off, e, fun j hj => (hF.cell (a := ⟨b, off + j, none⟩) (World.block_lt_of_cell? _ _ (hc j hj)) (hS h0 b off e)).trans (hc j hj)⟩

theorem ownsMap_size {w : World} {m n : Nat} {D : DataW Value} (h : w.ownsMap Tryz.prog 3 asIs m n D) : Maps.size D ≤ n := by
  obtain ⟨es, clock, hb, F, hs, rfl⟩ := h
  rw [Maps.size_eq, length_sorted]; simpa using hs

set_option maxHeartbeats 2000000 in
set_option maxRecDepth 20000 in
theorem crash_any (w : World) (R : Nat → Nat) (p b : Nat) (d : Dk) (h : Hnd w R p b) (hD : DAt w R b d) (hcnt : d.cnt < 1099511627776) (ko : Option Addr) (kc : Nat) (ks : List Bool) (hK : KeepAt w ko kc ks) (hkr : 0 < ks.length → ∀ k off, ko = some ⟨k, off, none⟩ → R k = 0) :
    Calls Tryz.prog 25 #[.pointer (some ⟨p, 0, none⟩), .slice ko ks.length kc] w fun e w' => e = .returned (.tuple #[]) ∧ ∃ R', DAt w' R' b (d.crash ks) ∧ UpR w R R' ∧ Fr (DS R) w w' := by
  obtain ⟨ms, mn, Ds, Dn, ao, cap, gw, xs, hb, m3, m4, m5, m6, m7⟩ := hD.box
  have lp := h.lt
  have lb := hD.lt
  have lms := m5.own.lt
  have cb3 : w.cell? ⟨b, 3, none⟩ = some (.slice ao d.wait.length cap) := hb.cell 3
  have cb1 : w.cell? ⟨b, 1, none⟩ = some (.map (some ms)) := hb.cell 1
  have cp0 := h.c0
  have hwc := hD.wcnt
  have hlen := m7.len
  have rb := hD.role
  have rp := h.role
  have nms : ∀ k, R k ≠ 2 → ¬ k = ms := fun k hk e => hk (by rw [e]; exact m3)
  have hn : (d.wait.length : Int) ≤ 2199023255552 := by omega
  have hks : (ks.length : Int) ≤ 140737488355328 := by have := hK.small; omega
  have HD := hide (And.intro h (And.intro hD (And.intro hb (And.intro m3 (And.intro m4 (And.intro m5 (And.intro m6 m7)))))))
  have HC := hide (And.intro hcnt (And.intro hwc (And.intro hlen (And.intro rb (And.intro rp (And.intro nms (And.intro hK hkr)))))))
  clear h hD hb m3 m4 m5 m6 m7 hcnt hwc hlen rb rp nms hK hkr
  go_enter Tryz.func25, Tryz.ntmps25
  go_wp2
  go_loopw [18] (fun iv wr => ∃ i : Nat, i ≤ d.wait.length ∧ iv = .int .i64 i ∧ ∃ D, Hid (MapAt wr R ms (d.cnt + i) (over d.safe (kept (d.wait.take i) ks)) D ∧ Fr (fun k => k = ms) w wr)) (fun iv _ => d.wait.length - (intOf iv).toNat)
  case atStart => exact ⟨0, Nat.zero_le _, rfl, Ds, by rw [List.take_zero]; exact (unhide HD).2.2.2.2.2.1, Fr.refl _ _⟩
  case round =>
    obtain ⟨i, hin, rfl, D, HI⟩ := hrel
    obtain ⟨hcnt, hwc, hlen, rb, rp, nms, hK, hkr⟩ := unhide HC
    obtain ⟨h, hD, hb, m3, m4, m5, m6, m7⟩ := unhide HD
    obtain ⟨hM, hF⟩ := unhide HI
    have tr : ∀ k j, R k ≠ 2 → k < w.heap.size → wr.cell? ⟨k, j, none⟩ = w.cell? ⟨k, j, none⟩ := fun k j hk hl => hF.cell (a := ⟨k, j, none⟩) hl (nms k hk)
    have kp := (tr p 0 (by omega) lp).trans cp0
    have k1 := (tr b 1 (by omega) lb).trans cb1
    have k3 := (tr b 3 (by omega) lb).trans cb3
    have hKw : KeepAt wr ko kc ks := hK.frame hF (fun h0 k off e => nms k (by rw [hkr h0 k off e]; omega))
    by_cases hlt : i < d.wait.length
    · obtain ⟨he1, he2⟩ := m7.each i (by omega) hlt
      obtain ⟨hv1, hv2⟩ := waitV_get xs i (by omega)
      have hcp : 0 < cap := by have := m7.row.le; rw [waitV_length] at this; omega
      have hao := m7.row.ad hcp
      subst hao
      have hwl := waitV_length xs
      have q1 : wr.cell? ⟨gw, i * 2, none⟩ = some (.int .i64 (xs[i].1 : Int)) := by
        rw [tr gw _ (by rw [(m7.role hcp).1]; omega) (m7.role hcp).2, m7.row.cells (i * 2) (by omega), ← hv1, List.getElem?_eq_getElem]
      have q2 : wr.cell? ⟨gw, i * 2 + 1, none⟩ = some xs[i].2 := by
        rw [tr gw _ (by rw [(m7.role hcp).1]; omega) (m7.role hcp).2, m7.row.cells (i * 2 + 1) (by omega), ← hv2, List.getElem?_eq_getElem]
      obtain ⟨xo, xc, ys, hx2, _⟩ := he2.bat
      rw [hx2] at q2 he2
      have lw : gw < w.heap.size := (m7.role hcp).2
      have hk1 : xs[i].1 < 4294967296 := by rw [he1]; exact hD.keys _ (List.getElem_mem hlt)
      have hFn : Fr (fun _ => False) wr (wr.alloc (.cells #[.int .i64 (xs[i].1 : Int), .slice xo ys.length xc] 87)) := (Fr.refl _ _).alloc _
      have hFa : Fr (fun _ => False) wr (wr.alloc (.cells #[.int .i64 (xs[i].1 : Int), .slice xo ys.length xc] 87)).drew := ((Fr.refl _ _).alloc _).drew
      have hFb : Fr (fun k => k = ms) w (wr.alloc (.cells #[.int .i64 (xs[i].1 : Int), .slice xo ys.length xc] 87)).drew := hF.trans hFa (fun _ _ t => t.elim)
      have nms5 : ∀ k, R k = 5 → ¬ k = ms := fun k hk => nms k (by omega)
      obtain ⟨w2, hrun, hM2, hF2, hz2⟩ := update_any (hM.frame (R' := R) hFa (fun _ _ t => t) (fun t => t) (fun _ _ => rfl)) (by omega) (by omega) xs[i].1 hk1 _ d.wait[i].2 (he2.frame (R' := R) hFb nms5 (fun _ _ => rfl))
      have hF3 : Fr (fun k => k = ms) w w2 := hFb.trans hF2 (fun _ _ t => t)
      have hS : ∀ w', Fr (fun k => k = ms) (wr.alloc (.cells #[.int .i64 (xs[i].1 : Int), .slice xo ys.length xc] 87)).drew w' → w'.cell? ⟨b, 1, none⟩ = some (.map (some ms)) ∧ w'.cell? ⟨wr.heap.size, 0, none⟩ = some (.int .i64 (xs[i].1 : Int)) ∧ w'.cell? ⟨wr.heap.size, 1, none⟩ = some (.slice xo ys.length xc) := fun w' hf => by
        have hf2 := hFb.trans hf (fun _ _ t => t)
        have hs := hF.size
        have hsz : (wr.alloc (.cells #[.int .i64 (xs[i].1 : Int), .slice xo ys.length xc] 87)).drew.heap.size = wr.heap.size + 1 := by simp
        refine ⟨(hf2.cell (a := ⟨b, 1, none⟩) lb (nms b (by omega))).trans cb1, ?_, ?_⟩
        · exact (hf.cell (a := ⟨wr.heap.size, 0, none⟩) (by rw [hsz]; exact Nat.lt_succ_self _) (by show ¬ wr.heap.size = ms; omega)).trans ((Bx.new wr #[.int .i64 (xs[i].1 : Int), .slice xo ys.length xc] 87).drew.cell 0)
        · exact (hf.cell (a := ⟨wr.heap.size, 1, none⟩) (by rw [hsz]; exact Nat.lt_succ_self _) (by show ¬ wr.heap.size = ms; omega)).trans ((Bx.new wr #[.int .i64 (xs[i].1 : Int), .slice xo ys.length xc] 87).drew.cell 1)
      have hkt := kept_take d.wait ks i hlt
      have hMn := (hM.frame (R' := R) hFn (fun _ _ t => t) (fun t => t) (fun _ _ => rfl))
      have hMn' : MapAt (wr.alloc (.cells #[.int .i64 (xs[i].1 : Int), .slice xo ys.length xc] 87)) R ms (d.cnt + (i + 1)) (over d.safe (kept (d.wait.take i) ks)) D := ⟨hMn.own.mono (by omega), hMn.sec⟩
      have hFn3 : Fr (fun k => k = ms) w (wr.alloc (.cells #[.int .i64 (xs[i].1 : Int), .slice xo ys.length xc] 87)) := hF.trans hFn (fun _ _ t => t.elim)
      have HS := hide hS
      have HK := hide (And.intro hM2 (And.intro hF2 (And.intro hF3 (And.intro he1 (And.intro hkt (And.intro hMn' hFn3))))))
      have hilt : (i : Int) < (d.wait.length : Int) := by omega
      have hKc := hKw.cells
      generalize xs[i].1 = x1 at *
      clear hM hF he1 he2 hv1 hv2 tr h hD hb m3 m4 m5 m6 m7 hcnt hwc hlen rb rp nms nms5 hcp hwl hM2 hF2 hF3 hz2 hS hFa hFb hx2 hk1 hkt hMn hMn' hFn hFn3 hKw hK hkr
      by_cases hki : i < ks.length
      · obtain ⟨kb, koff, rfl, hkc⟩ := hKc (by omega)
        have hkci := hkc i hki
        have lkb := World.block_lt_of_cell? _ _ hkci
        have hkb : kb < wr.heap.size := lkb
        have hkl : (i : Int) < (ks.length : Int) := by omega
        have hgd : ks.getD i false = ks[i] := by simp [List.getD, hki]
        have HG := hide hgd
        clear hkc lkb hgd hKc
        generalize ks[i] = kv at *
        cases kv with
        | true =>
          go_wp2
          go_region_held3 (fun w' => w'.cell? ⟨b, 1, none⟩ = some (.map (some ms)) ∧ w'.cell? ⟨wr.heap.size, 0, none⟩ = some (.int .i64 (x1 : Int)) ∧ w'.cell? ⟨wr.heap.size, 1, none⟩ = some (.slice xo ys.length xc)) (first | exact unhide HS _ (Fr.refl _ _) | exact unhide HS _ (unhide HK).2.1) (fail)
          clear HS hrun q1 q2 kp k1 k3 hkci
          go_wp2
          obtain ⟨hM2, hF2, hF3, he1, hkt, _⟩ := unhide HK
          rw [unhide HG, if_pos rfl] at hkt
          have hM3 := hM2
          rw [show (fun c => if c = x1 then d.wait[i].2 else over d.safe (kept (d.wait.take i) ks) c) = over d.safe (kept (d.wait.take (i + 1)) ks) by rw [hkt]; funext c; rw [over_snoc, he1]] at hM3
          exact ⟨⟨i + 1, by omega, by go_num, _, hM3, hF3⟩, by simp [intOf]; omega⟩
        | false =>
          clear HS hrun
          go_wp2
          obtain ⟨_, _, _, _, hkt, hMn, hFn⟩ := unhide HK
          rw [unhide HG, if_neg (by simp), List.append_nil] at hkt
          rw [← hkt] at hMn
          exact ⟨⟨i + 1, by omega, by go_num, _, hMn, hFn⟩, by simp [intOf]; omega⟩
      · have hkl : ¬ (i : Int) < (ks.length : Int) := by omega
        have hgd : ks.getD i false = false := by simp [List.getD, hki]
        have HG := hide hgd
        clear HS hrun hKc hgd
        go_wp2
        obtain ⟨_, _, _, _, hkt, hMn, hFn⟩ := unhide HK
        rw [unhide HG, if_neg (by simp), List.append_nil] at hkt
        rw [← hkt] at hMn
        exact ⟨⟨i + 1, by omega, by go_num, _, hMn, hFn⟩, by simp [intOf]; omega⟩
    · obtain rfl : i = d.wait.length := by omega
      have fz : ∀ j, wr.frozen? ⟨b, j, none⟩ = false := fun j => (hF.frozen (a := ⟨b, j, none⟩) lb (nms b (by omega))).trans (hb.frozen j)
      have k2 := (tr b 2 (by omega) lb).trans (hb.cell 2)
      have k4 := (tr b 4 (by omega) lb).trans (hb.cell 4)
      have k7 := (tr b 7 (by omega) lb).trans (hb.cell 7)
      have f2 := fz 2
      have f3 := fz 3
      have f4 := fz 4
      have f7 := fz 7
      have lbw : b < wr.heap.size := by have := hF.size; omega
      have hmk := @run_makeMap Tryz.prog
      have hown := hM.own
      rw [List.take_length] at hM
      have hmsb : ms ≠ b := fun e => by rw [e] at m3; omega
      clear tr h hD hb m3 m4 m5 m6 m7 hcnt hwc hlen rb rp nms hM hF hK hkr hKw fz
      have hFw : Fr (fun k => k = b) wr (((wr.setCell ⟨b, 3, none⟩ (.slice none 0 0)).setCell ⟨b, 2, none⟩ (.map (some wr.heap.size))).alloc (.map #[] 0)) := (((Fr.refl (fun k => k = b) wr).setCell (fun _ => rfl) _).setCell (fun _ => rfl) _).alloc _
      have hown1 : (((wr.setCell ⟨b, 3, none⟩ (.slice none 0 0)).setCell ⟨b, 2, none⟩ (.map (some wr.heap.size))).alloc (.map #[] 0)).ownsMap Tryz.prog 3 asIs ms (d.cnt + d.wait.length) D := by
        have hl := hown.lt
        obtain ⟨es, clock, e1, e2, e3, e4⟩ := hown
        exact ⟨es, clock, (hFw.block ms hl hmsb).trans e1, e2, e3, e4⟩
      have hmade : (((wr.setCell ⟨b, 3, none⟩ (.slice none 0 0)).setCell ⟨b, 2, none⟩ (.map (some wr.heap.size))).alloc (.map #[] 0)).ownsMap Tryz.prog 3 asIs wr.heap.size 0 (.map []) := by
        have := World.ownsMap_made ((wr.setCell ⟨b, 3, none⟩ (.slice none 0 0)).setCell ⟨b, 2, none⟩ (.map (some wr.heap.size))) Tryz.prog 3 asIs
        simpa using this
      have hbx1 : Bx (((wr.setCell ⟨b, 3, none⟩ (.slice none 0 0)).setCell ⟨b, 2, none⟩ (.map (some wr.heap.size))).alloc (.map #[] 0)) b (boxC { d with wait := [] } ms wr.heap.size none 0) 83 := by
        obtain ⟨_, hF⟩ := unhide HI
        obtain ⟨_, _, _, rb, _, nms, _⟩ := unhide HC
        exact (((Bx.frame (unhide HD).2.2.1 hF (nms b (by omega))).setCell 3 (.slice none 0 0)).setCell 2 (.map (some wr.heap.size))).alloc _
      have hz1 : (((wr.setCell ⟨b, 3, none⟩ (.slice none 0 0)).setCell ⟨b, 2, none⟩ (.map (some wr.heap.size))).alloc (.map #[] 0)).heap.size = wr.heap.size + 1 := by simp
      have HW := hide (And.intro hFw (And.intro hown1 (And.intro hmade (And.intro hbx1 hz1))))
      clear hFw hown1 hmade hbx1 hz1 hown
      go_wp2_with (at_range; refine wpList_range_own _ rfl _ 80 rfl 3 28 keyed3 Tryz.underlying80 asIs ms (d.cnt + d.wait.length) D rfl (unhide HW).2.1 ?_; intro w0 hrg0 hg0 hs0)
      obtain ⟨hFw, hown1, hmade, hbx1, hz1⟩ := unhide HW
      rw [hz1] at hrg0 ⊢
      have hF0 : Fr (fun _ => False) _ w0 := ⟨hg0.os, hg0.tape, hg0.output, hg0.size, fun k hk _ => hg0.block k hk (by simp)⟩
      have hbx := hbx1.keep hF0
      have hmade0 : w0.ownsMap Tryz.prog 3 asIs wr.heap.size 0 (.map []) := hmade.kept hg0 (by simp)
      have hFr0 : Fr (fun k => k = b) wr w0 := hFw.trans hF0 (fun _ _ t => t.elim)
      have hszl := ownsMap_size hown1
      have hlb0 : b < w0.heap.size := hbx.lt
      have hz0 : w0.heap.size = wr.heap.size + 2 := by rw [hs0, hz1]
      have HW0 := hide (And.intro hrg0 (And.intro hmade0 (And.intro hbx (And.intro hFr0 (And.intro hszl hz0)))))
      clear hFw hown1 hmade hbx1 hz1 hF0 hg0 hs0 hrg0 hmade0 hbx hFr0 hszl HW k1 k2 k3 k4 k7 f2 f3 f4 f7 kp hmk hz0
      obtain ⟨n1, hn1⟩ : ∃ n1, n1 = d.cnt + d.wait.length := ⟨_, rfl⟩
      rw [← hn1] at HW0
      have HN := hide hn1
      clear hn1
      go_wp2
      go_frame
      go_loopw [54] (fun _ wq => ∃ left cnt Dout n2, Hid (wq.ranges Tryz.prog 3 asIs ms (wr.heap.size + 1) n1 D left cnt ∧ wq.ownsMap Tryz.prog 3 asIs wr.heap.size n2 Dout ∧ Maps.Agree Dout D left ∧ n2 + cnt ≤ n1 ∧ Fr (fun k => k = wr.heap.size ∨ k = wr.heap.size + 1) w0 wq)) (fun _ wq => wq.rangeLeft ms (wr.heap.size + 1))
      case atStart => exact ⟨_, _, .map [], 0, (unhide HW0).1, (unhide HW0).2.1, Maps.agree_start D, by rw [Nat.zero_add]; exact (unhide HW0).2.2.2.2.1, Fr.refl _ _⟩
      case round =>
        obtain ⟨left, cnt, Dout, n2, HR⟩ := hrel
        rename World => wq
        obtain ⟨hrg, hmn, hA, hle, hFq⟩ := unhide HR
        obtain ⟨hcnt, hwc, hlen, rb, rp, nms, hK, hkr⟩ := unhide HC
        have hn1 : n1 < 1152921504606846976 := by have := unhide HN; omega
        have hbq : Bx wq b (boxC { d with wait := [] } ms wr.heap.size none 0) 83 := (unhide HW0).2.2.1.frame hFq (by omega)
        have kb2 : wq.cell? ⟨b, 2, none⟩ = some (.map (some wr.heap.size)) := hbq.cell 2
        have kb4 : wq.cell? ⟨b, 4, none⟩ = some (.bool d.armed) := hbq.cell 4
        have kb7 : wq.cell? ⟨b, 7, none⟩ = some (.bool d.down) := hbq.cell 7
        have fb4 := hbq.frozen 4
        have fb7 := hbq.frozen 7
        have hmr : ms < wr.heap.size := by have := (unhide HI).2.size; omega
        have HQ := hide (And.intro hmn (And.intro hA (And.intro hle (And.intro hFq (And.intro hn1 hbq)))))
        have HRG := hide hrg
        clear hrg hmn hA hle hFq hcnt hwc hlen rb rp nms hK hkr hn1 hbq HR
        go_wp2_with (at_next; refine wpList_next_ranges _ rfl _ rfl 3 keyed3 asIs (Value.int .i64) (fun v => v) (fun key kl hk => by obtain ⟨x, hx, _⟩ := Maps.keyOf_int_inv Tryz.underlying3 hk; exact ⟨x, hx⟩) (fun v _ _ => ⟨v, rfl⟩) ms (wr.heap.size + 1) n1 D left cnt rfl (unhide HRG) ?_ ?_)
        · intro hc0 hl0
          have HL := hide hl0
          clear hl0 hc0
          go_wp2
          go_end0
          obtain ⟨hmn, hA, hle, hFq, hn1, hbq⟩ := unhide HQ
          obtain ⟨hcnt, hwc, hlen, rb, rp, nms, hK, hkr⟩ := unhide HC
          obtain ⟨h, hD, hb, m3, m4, m5, m6, m7⟩ := unhide HD
          obtain ⟨hM, hF⟩ := unhide HI
          obtain ⟨_, _, _, hFr0, _, hz0⟩ := unhide HW0
          have hDD := Maps.agree_end hA (unhide HL) (hmn.canon keyed3) (hM.own.canon keyed3)
          rw [List.take_length] at hM
          have hFs : Fr (fun k => k = b) wq ((wq.setCell ⟨b, 4, none⟩ (.bool false)).setCell ⟨b, 7, none⟩ (.bool false)) := ((Fr.refl (fun k => k = b) wq).setCell (fun _ => rfl) _).setCell (fun _ => rfl) _
          have hF9 : Fr (fun k => k = b) wr ((wq.setCell ⟨b, 4, none⟩ (.bool false)).setCell ⟨b, 7, none⟩ (.bool false)) := (hFr0.trans hFq (fun k hk t => by omega)).trans hFs (fun _ _ t => t)
          have hF8 : Fr (fun k => k = ms ∨ k = b) w ((wq.setCell ⟨b, 4, none⟩ (.bool false)).setCell ⟨b, 7, none⟩ (.bool false)) := (hF.mono (fun _ _ t => .inl t)).trans hF9 (fun _ _ t => .inr t)
          have hs := hF.size
          have hU : UpR wr R (upd R wr.heap.size 3) := fun k hk => upd_other _ _ (by omega)
          have hU0 : UpR w R (upd R wr.heap.size 3) := fun k hk => upd_other _ _ (by omega)
          have nb5 : ∀ k, R k = 5 → ¬ k = b := fun k hk e => by rw [e] at hk; omega
          have hbx9 := (hbq.setCell 4 (.bool false)).setCell 7 (.bool false)
          have hbe : ((boxC { d with wait := [] } ms wr.heap.size none 0).setIfInBounds 4 (.bool false)).setIfInBounds 7 (.bool false) = boxC (d.crash ks) ms wr.heap.size none 0 := by simp [boxC, Dk.crash]
          rw [hbe] at hbx9
          have hM9 := hM.frame (R' := upd R wr.heap.size 3) hF9 nb5 (fun e => by rw [e] at m3; omega) hU
          have hmn9 : ((wq.setCell ⟨b, 4, none⟩ (.bool false)).setCell ⟨b, 7, none⟩ (.bool false)).ownsMap Tryz.prog 3 asIs wr.heap.size (d.cnt + d.wait.length) D := by
            rw [hDD] at hmn
            have hl := hmn.lt
            have hle2 : n2 ≤ d.cnt + d.wait.length := by have := unhide HN; omega
            obtain ⟨es, clock, e1, e2, e3, e4⟩ := hmn
            exact ⟨es, clock, (hFs.block _ hl (by show ¬ wr.heap.size = b; omega)).trans e1, e2, Nat.le_trans e3 hle2, e4⟩
          refine ⟨rfl, upd R wr.heap.size 3, ⟨fun k hk => ?_, by rw [upd_other _ _ (by omega)]; exact rb, ⟨ms, wr.heap.size, D, D, none, 0, 0, [], hbx9, by rw [upd_other _ _ (by omega)]; exact m3, upd_same _ _ _, hM9, ⟨hmn9, hM9.sec⟩, ⟨rfl, KRow.nil _ _ _, fun h => absurd h (by omega), fun i h => absurd h (by simp)⟩⟩, hD.many, hD.acts, fun q hq => (by cases hq), Nat.zero_le _⟩, hU0, hF8.mono (fun k _ t => ?_)⟩
          · have hk' : w0.heap.size ≤ k := Nat.le_trans (Nat.le_trans hFq.size hFs.size) hk
            rw [upd_other _ _ (by omega)]
            exact hD.zero k (by omega)
          · rcases t with rfl | rfl
            · exact ⟨by omega, by omega⟩
            · exact ⟨by omega, by omega⟩
        · intro x c kl yd yp w1 cnt1 hkey hlk hv hat hrg1 hlt hg1 hs1 hen
          obtain ⟨hmn, hA, hle, hFq, hn1, hbq⟩ := unhide HQ
          have hmn1 : w1.ownsMap Tryz.prog 3 asIs wr.heap.size n2 Dout := hmn.kept hg1 (by simp)
          obtain ⟨w2, hrun, r1, r2⟩ := hmn1.update keyed3 Tryz.underlying80 (by simp only [maxLen]; omega) hkey (d := .held c) (ps := []) rfl
          have hF1 : Fr (fun k => k = wr.heap.size ∨ k = wr.heap.size + 1) wq w1 := ⟨hg1.os, hg1.tape, hg1.output, hg1.size, fun k hk hne => hg1.block k hk (fun e => hne (.inr (by injection e)))⟩
          have hF2 : Fr (fun k => k = wr.heap.size ∨ k = wr.heap.size + 1) w1 w2 := ⟨r2.os, r2.tape, r2.output, r2.size, fun k hk hne => r2.block k hk (fun e => hne (.inl (by injection e)))⟩
          have hFw1 := hFq.trans hF1 (fun _ _ t => t)
          have kb2' : w1.cell? ⟨b, 2, none⟩ = some (.map (some wr.heap.size)) := (hbq.frame hF1 (by omega)).cell 2
          have hy : yd = .held c := by simp [asIs] at hv; exact hv.1.symm
          have hA2 := Maps.agree_step hA (by obtain ⟨es, clock, _, _, _, e⟩ := hmn; exact ⟨_, e⟩) (keyed3.key hkey) hat
          rw [hy] at hA2
          have hrg2 := hrg1.kept (row := some wr.heap.size) r2 (by simp; omega) (by simp)
          have HE := hide (And.intro hrg2 (And.intro r1 (And.intro hA2 (And.intro (hFw1.trans hF2 (fun _ _ t => t)) hlt))))
          have HE2 := hide (And.intro hle (unhide HRG).left_eq)
          clear hkey hlk hv hat hrg1 hlt hg1 hs1 hmn hA hle hFq hn1 hbq hmn1 r1 r2 hF1 hF2 hFw1 hy hA2 hrg2 kb2 kb4 kb7 fb4 fb7
          go_wp2
          obtain ⟨hrg2, r1, hA2, hF2, hlt⟩ := unhide HE
          obtain ⟨hle, hleft⟩ := unhide HE2
          refine ⟨⟨_, cnt1, _, n2 + 1, hrg2, r1, hA2, by omega, hF2⟩, ?_⟩
          rw [hrg2.left_eq, hleft]; exact hlt

end Go.Proofs.YtjkghgcdkfkekaaGreatDoor

