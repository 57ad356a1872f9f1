import Derived.Test.YtkjoojamkbpfcaaGreatNT
import Derived.Test.YtkjoojamkbpfcaaGreatQVX
import Derived.Test.YtkjoojamkbpfcaaGreatGX
/- The document's own answers: a tariff, written. -/
namespace Go.Proofs.YtkjoojamkbpfcaaGreat
open Go.RowKit

/-- The document's writer, a box beside it; all that was is as it was. -/
def YW (w wr : World) (p B : Nat) (st : Option (List UInt8)) (cs : Array Value) (T : TypeId) : Prop := ∃ g, YB wr p g B st cs T ∧ Fr (fun _ => False) w wr ∧ w.heap.size ≤ p ∧ w.heap.size ≤ g

section
variable {w wr : World} {p B : Nat} {st : Option (List UInt8)} {cs : Array Value} {T : TypeId}
theorem YW.fr (h : YW w wr p B st cs T) : Fr (fun _ => False) w wr := by obtain ⟨g, _, h2, _⟩ := h; exact h2
theorem YW.cell (h : YW w wr p B st cs T) (k : Nat) : wr.cell? ⟨B, k, none⟩ = cs[k]? := by obtain ⟨g, h1, _⟩ := h; exact h1.x.cell k
theorem YW.next (h : YW w wr p B st cs T) {st' : Option (List UInt8)} {w' : World} (hP : ∀ g, YSt wr p g st → YPuts p g st' wr w') : YW w w' p B st' cs T := by
  obtain ⟨g, h1, h2, h3, h4⟩ := h
  obtain ⟨g', hB, hg, hF⟩ := h1.next (hP g h1.s)
  have := h2.size
  exact ⟨g', hB, h2.trans hF (fun _ hi t => by omega), h3, by omega⟩
theorem YW.put {f : Nat} {args : Array Value} {o : Option (List UInt8)} (h : YW w wr p B st cs T) (hC : ∀ g, YSt wr p g st → Calls Tryz.prog f args wr fun e w' => e = .returned (.tuple #[]) ∧ YPuts p g (stepW st o) wr w') :
    Calls Tryz.prog f args wr fun e w' => e = .returned (.tuple #[]) ∧ YW w w' p B (stepW st o) cs T := by
  obtain ⟨g, h1, h2, h3, h4⟩ := h
  refine (hC g h1.s).mono ?_
  rintro e w' ⟨rfl, hP⟩
  obtain ⟨g', hB, hg, hF⟩ := h1.next hP
  have := h2.size
  exact ⟨rfl, g', hB, h2.trans hF (fun _ hi t => by omega), h3, by omega⟩
theorem YW.num (h : YW w wr p B st cs T) {L : Nat} (hM : Most st L) (hL : L ≤ 100000) (n size : Int) (hn : n ≤ 9223372036854775807) :
    Calls Tryz.prog 22 #[.pointer (some ⟨p, 0, none⟩), .int .i64 n, .int .i64 size] wr fun e w' => e = .returned (.tuple #[]) ∧ YW w w' p B (stepW st (wNumber n size)) cs T :=
  h.put (fun g hY => yNumber hY (fun bs e => by have := hM bs e; omega) n size hn)
theorem YW.flt (h : YW w wr p B st cs T) {L : Nat} (hM : Most st L) (hL : L ≤ 100000) (b : Nat) :
    Calls Tryz.prog 23 #[.pointer (some ⟨p, 0, none⟩), .float .f64 b] wr fun e w' => e = .returned (.tuple #[]) ∧ YW w w' p B (stepW st (wFloat b)) cs T :=
  h.put (fun g hY => yFloat hY (fun bs e => by have := hM bs e; omega) b)
theorem YW.cnt (h : YW w wr p B st cs T) {L : Nat} (hM : Most st L) (hL : L ≤ 100000) (n : Int) (hn : n ≤ 9223372036854775807) :
    Calls Tryz.prog 21 #[.pointer (some ⟨p, 0, none⟩), .int .i64 n] wr fun e w' => e = .returned (.tuple #[]) ∧ YW w w' p B (stepW st (wCount n)) cs T :=
  h.put (fun g hY => yCount hY (fun bs e => by have := hM bs e; omega) n hn)
theorem YW.bytes (h : YW w wr p B st cs T) {L : Nat} (hM : Most st L) (hL : L ≤ 100000) : Calls Tryz.prog 24 #[.pointer (some ⟨p, 0, none⟩)] wr (Wrote w (st.getD []) (codeOf st)) := by
  obtain ⟨g, h1, h2, _⟩ := h
  refine (ybytes h1.s L hM (by omega)).mono ?_
  intro e w' hW
  exact Wrote.later h2 hW
end

theorem wr3 (a b c : Int) (i j k : Nat) : wrL [.num i, .num j, .num k] [.int .i64 a, .int .i64 b, .int .i64 c] = stepW (wNumber a i) (stepW (wNumber b j) (wNumber c k)) := by
  show stepW (wNumber a i) (stepW (wNumber b j) (stepW (wNumber c k) (some []))) = _
  rw [stepW_nil]
theorem wr5 (a b c d e : Int) (i j k l m : Nat) : wrL [.num i, .num j, .num k, .num l, .num m] [.int .i64 a, .int .i64 b, .int .i64 c, .int .i64 d, .int .i64 e] = stepW (wNumber a i) (stepW (wNumber b j) (stepW (wNumber c k) (stepW (wNumber d l) (wNumber e m)))) := by
  show stepW (wNumber a i) (stepW (wNumber b j) (stepW (wNumber c k) (stepW (wNumber d l) (stepW (wNumber e m) (some []))))) = _
  rw [stepW_nil]
theorem wr2 (a b : Int) (i j : Nat) : wrL [.num i, .num j] [.int .i64 a, .int .i64 b] = stepW (wNumber a i) (wNumber b j) := by
  show stepW (wNumber a i) (stepW (wNumber b j) (some [])) = _
  rw [stepW_nil]
theorem tarB_flat (t : Tf) : tarB t = stepW (stepW (stepW (stepW (stepW (stepW (stepW (stepW (stepW (stepW (stepW (stepW (stepW (stepW (stepW (stepW (stepW (some []) (wCount (t.st.length : Int))) (wrN stationK (t.st.map stC))) (wCount (t.sp.length : Int))) (wrN spanK (t.sp.map spC))) (wCount (t.bd.length : Int))) (wrN bandK (t.bd.map bdC))) (wFloat t.off)) (wNumber t.bus 4)) (wNumber t.busDaily 4)) (wNumber t.busWeekly 4)) (wNumber t.hopper 2)) (wNumber t.most 4)) (wNumber t.longest 2)) (wNumber t.change 2)) (wNumber t.passback 2)) (wNumber t.delay 2)) (wNumber t.threshold 4) := by
  unfold tarB
  have e1 : ∀ (k : Nat) (a : Int), wrL (List.replicate 1 (.num k)) ([a].map (Value.int .i64)) = wNumber a k := fun k a => stepW_nil _
  have e3 : ∀ (k : Nat) (a b c : Int), wrL (List.replicate 3 (.num k)) ([a, b, c].map (Value.int .i64)) = stepW (wNumber a k) (stepW (wNumber b k) (wNumber c k)) := fun k a b c => wr3 a b c k k k
  have e4 : ∀ (k : Nat) (a b c d : Int), wrL (List.replicate 4 (.num k)) ([a, b, c, d].map (Value.int .i64)) = stepW (wNumber a k) (stepW (wNumber b k) (stepW (wNumber c k) (wNumber d k))) := fun k a b c d => by
    show stepW (wNumber a k) (stepW (wNumber b k) (stepW (wNumber c k) (stepW (wNumber d k) (some [])))) = _
    rw [stepW_nil]
  rw [e1, e1, e1, e3, e4]
  simp only [wrM, List.length_map, stepW_assoc]
  rfl

set_option maxHeartbeats 2000000 in
set_option maxRecDepth 100000 in
theorem refTariff_bad (t : Tf) (A : Ad) (w : World) (h : TAt w A t) (c : Int) (hc : c = 50 ∨ c = 51 ∨ c = 70) (he : rightE t = c) : Calls Tryz.prog 8 #[tv A t] w (Wrote w [] c) := by
  have R := hide (fun (w' : World) (hf : Fr (fun _ => False) w w') => rright_walk w' A t (h.keep hf))
  rw [he] at R
  clear he h
  obtain ⟨aS, cS, aP, cP, aB, cB⟩ := A
  have HA0 : Hid (Fr (fun _ => False) w (w.alloc (.cells #[.slice aS t.st.length cS, .slice aP t.sp.length cP, .slice aB t.bd.length cB, .float .f64 t.off, .int .i64 t.bus, .int .i64 t.busDaily, .int .i64 t.busWeekly, .int .i64 t.hopper, .int .i64 t.most, .int .i64 t.longest, .int .i64 t.change, .int .i64 t.passback, .int .i64 t.delay, .int .i64 t.threshold] 27))) := hide ((Fr.refl _ w).alloc _)
  unfold tv tc at *
  rcases hc with rfl | rfl | rfl
  · go_enter Tryz.func8, Tryz.ntmps8
    go_wp2_with fail
    refine (unhide R _ (unhide HA0)).mono ?_
    rintro e w1 ⟨rfl, hF⟩
    have HF1 : Hid (Fr (fun _ => False) w w1) := hide ((unhide HA0).trans hF (fun _ _ t => t))
    clear hF
    go_wp2
    go_ret2
    exact ⟨none, 0, 0, rfl, Row.nil _ _, fun h => absurd h (by omega), unhide HF1⟩
  · go_enter Tryz.func8, Tryz.ntmps8
    go_wp2_with fail
    refine (unhide R _ (unhide HA0)).mono ?_
    rintro e w1 ⟨rfl, hF⟩
    have HF1 : Hid (Fr (fun _ => False) w w1) := hide ((unhide HA0).trans hF (fun _ _ t => t))
    clear hF
    go_wp2
    go_ret2
    exact ⟨none, 0, 0, rfl, Row.nil _ _, fun h => absurd h (by omega), unhide HF1⟩
  · go_enter Tryz.func8, Tryz.ntmps8
    go_wp2_with fail
    refine (unhide R _ (unhide HA0)).mono ?_
    rintro e w1 ⟨rfl, hF⟩
    have HF1 : Hid (Fr (fun _ => False) w w1) := hide ((unhide HA0).trans hF (fun _ _ t => t))
    clear hF
    go_wp2
    go_ret2
    exact ⟨none, 0, 0, rfl, Row.nil _ _, fun h => absurd h (by omega), unhide HF1⟩

set_option maxHeartbeats 8000000 in
set_option maxRecDepth 100000 in
theorem refTariff_good (t : Tf) (A : Ad) (w : World) (h : TAt w A t) (he : rightE t = 0) : Calls Tryz.prog 8 #[tv A t] w (Wrote w ((tarB t).getD []) (codeOf (tarB t))) := by
  have R := hide (fun (w' : World) (hf : Fr (fun _ => False) w w') => rright_walk w' A t (h.keep hf))
  have HSM := hide (small_of he)
  have HM := hide (tarB_most t (small_of he))
  rw [he] at R
  have HI := hide h
  have l1 := (small_of he).lS
  have l2 := (small_of he).lP
  have l3 := (small_of he).lB
  rw [tarB_flat] at HM
  rw [tarB_flat]
  clear he h
  obtain ⟨aS, cS, aP, cP, aB, cB⟩ := A
  have HA0 : Hid (Fr (fun _ => False) w (w.alloc (.cells #[.slice aS t.st.length cS, .slice aP t.sp.length cP, .slice aB t.bd.length cB, .float .f64 t.off, .int .i64 t.bus, .int .i64 t.busDaily, .int .i64 t.busWeekly, .int .i64 t.hopper, .int .i64 t.most, .int .i64 t.longest, .int .i64 t.change, .int .i64 t.passback, .int .i64 t.delay, .int .i64 t.threshold] 27))) := hide ((Fr.refl _ w).alloc _)
  unfold tv tc at *
  simp only at R
  obtain ⟨Z, HZ⟩ : ∃ Z, Hid (stepW (stepW (stepW (stepW (stepW (stepW (stepW (stepW (stepW (stepW (stepW (stepW (stepW (stepW (stepW (stepW (stepW (some []) (wCount (t.st.length : Int))) (wrN stationK (t.st.map stC))) (wCount (t.sp.length : Int))) (wrN spanK (t.sp.map spC))) (wCount (t.bd.length : Int))) (wrN bandK (t.bd.map bdC))) (wFloat t.off)) (wNumber t.bus 4)) (wNumber t.busDaily 4)) (wNumber t.busWeekly 4)) (wNumber t.hopper 2)) (wNumber t.most 4)) (wNumber t.longest 2)) (wNumber t.change 2)) (wNumber t.passback 2)) (wNumber t.delay 2)) (wNumber t.threshold 4) = Z) := ⟨_, rfl⟩
  rw [unhide HZ] at HM ⊢
  go_enter Tryz.func8, Tryz.ntmps8
  go_wp2_with fail
  refine (unhide R _ (unhide HA0)).mono ?_
  rintro e v0 ⟨rfl, hF⟩
  obtain ⟨st0, HS0⟩ : ∃ s, Hid (s = some ([] : List UInt8)) := ⟨_, rfl⟩
  have HY0 : Hid (YW w (v0.alloc (.cells #[.slice none 0 0, .bool false] 63)) v0.heap.size w.heap.size st0 #[.slice aS t.st.length cS, .slice aP t.sp.length cP, .slice aB t.bd.length cB, .float .f64 t.off, .int .i64 t.bus, .int .i64 t.busDaily, .int .i64 t.busWeekly, .int .i64 t.hopper, .int .i64 t.most, .int .i64 t.longest, .int .i64 t.change, .int .i64 t.passback, .int .i64 t.delay, .int .i64 t.threshold] 27) := hide (by
    have h1 := (unhide HA0).trans hF (fun _ _ t => t)
    have h2 := (Bx.new w #[.slice aS t.st.length cS, .slice aP t.sp.length cP, .slice aB t.bd.length cB, .float .f64 t.off, .int .i64 t.bus, .int .i64 t.busDaily, .int .i64 t.busWeekly, .int .i64 t.hopper, .int .i64 t.most, .int .i64 t.longest, .int .i64 t.change, .int .i64 t.passback, .int .i64 t.delay, .int .i64 t.threshold] 27).keep hF
    have h3 := h2.lt
    rw [unhide HS0]
    exact ⟨v0.heap.size, ⟨newY v0 _, h2.alloc _, by omega, by omega⟩, h1.alloc _, h1.size, h1.size⟩)
  have HM0 : Hid (Most st0 0) := hide (by rw [unhide HS0]; exact Most.nil)
  clear hF R HA0
  have c0 : (v0.alloc (.cells #[.slice none 0 0, .bool false] 63)).cell? ⟨w.heap.size, 0, none⟩ = some (.slice aS t.st.length cS) := (unhide HY0).cell 0
  go_wp2_with fail
  clear c0
  generalize v0.alloc (.cells #[.slice none 0 0, .bool false] 63) = w0 at *
  obtain ⟨p, Hp⟩ : ∃ p, Hid (v0.heap.size = p) := ⟨_, rfl⟩
  obtain ⟨B, HBb⟩ : ∃ p, Hid (w.heap.size = p) := ⟨_, rfl⟩
  rw [unhide Hp, unhide HBb] at HY0 ⊢
  clear Hp HBb
  refine ((unhide HY0).cnt (unhide HM0) (by omega) (t.st.length : Int) (by omega)).mono ?_
  rintro e w1 ⟨rfl, hY⟩
  obtain ⟨st1, HS1⟩ : ∃ s, Hid (s = stepW st0 (wCount (t.st.length : Int))) := ⟨_, rfl⟩
  rw [← unhide HS1] at hY
  have HY1 := hide hY
  have HM1 : Hid (Most st1 2) := hide (by rw [unhide HS1]; exact ((unhide HM0).step (Most.count _)).mono (by omega))
  clear hY HY0
  go_wp2
  go_loopw [6] (fun iv wr => ∃ i : Nat, i ≤ t.st.length ∧ iv = .int .i64 i ∧ Hid (YW w wr p B (stepW st1 (wrN stationK ((t.st.take i).map stC))) #[.slice aS t.st.length cS, .slice aP t.sp.length cP, .slice aB t.bd.length cB, .float .f64 t.off, .int .i64 t.bus, .int .i64 t.busDaily, .int .i64 t.busWeekly, .int .i64 t.hopper, .int .i64 t.most, .int .i64 t.longest, .int .i64 t.change, .int .i64 t.passback, .int .i64 t.delay, .int .i64 t.threshold] 27)) (fun iv _ => t.st.length - (intOf iv).toNat)
  case atStart =>
    refine ⟨0, Nat.zero_le _, rfl, ?_⟩
    have e : stepW st1 (wrN stationK ((t.st.take 0).map stC)) = st1 := by simp [wrN, stepW_nil]
    rw [e]
    exact unhide HY1
  case round =>
    clear HY1
    obtain ⟨i, hi, rfl, HS⟩ := hrel
    obtain ⟨wa, rfl⟩ : ∃ wa, wa = wr := ⟨_, rfl⟩
    by_cases hlt : i < t.st.length
    · obtain ⟨s0, Hs0⟩ : ∃ s, Hid (s = stepW st1 (wrN stationK ((t.st.take i).map stC))) := ⟨_, rfl⟩
      have M0 : Hid (Most s0 1002) := hide (by
        rw [unhide Hs0]
        refine ((unhide HM1).step (Most.wrN _ _)).mono ?_
        simp only [wide, List.foldr, Kd.n, List.length_map, List.length_take]
        omega)
      have HNX : Hid (stepW st1 (wrN stationK ((t.st.take (i + 1)).map stC)) = stepW s0 (wrL stationK (stC t.st[i]))) := hide (by
        rw [List.take_succ_eq_append_getElem hlt, List.map_append, List.map_cons, List.map_nil, wrN_snoc, ← stepW_assoc, ← unhide Hs0])
      rw [← unhide Hs0] at HS
      have hsm := (unhide HSM).st _ (List.getElem_mem hlt)
      obtain ⟨q, off, ea, e0, e1, e2⟩ := (unhide HI).st.st hlt
      have HK : Hid (∀ w', Fr (fun _ => False) w w' → w'.cell? ⟨q, off + i * 3, none⟩ = some (.int .i64 t.st[i].id) ∧ w'.cell? ⟨q, off + i * 3 + 1, none⟩ = some (.int .i64 t.st[i].zone) ∧ w'.cell? ⟨q, off + i * 3 + 2, none⟩ = some (.int .i64 t.st[i].group)) := hide (fun w' hf => ⟨(hf.cell (a := ⟨q, off + i * 3, none⟩) (World.block_lt_of_cell? _ _ e0) (fun t => t)).trans e0, (hf.cell (a := ⟨q, off + i * 3 + 1, none⟩) (World.block_lt_of_cell? _ _ e1) (fun t => t)).trans e1, (hf.cell (a := ⟨q, off + i * 3 + 2, none⟩) (World.block_lt_of_cell? _ _ e2) (fun t => t)).trans e2⟩)
      generalize t.st[i] = x at *
      have HSX := hide hsm
      simp only at ea
      subst ea
      clear hsm e0 e1 e2 Hs0
      have cb : wa.cell? ⟨B, 0, none⟩ = some (.slice (some ⟨q, off, none⟩) t.st.length cS) := (unhide HS).cell 0
      have ce := (unhide HK _ (unhide HS).fr).1
      go_wp2_with fail
      refine ((unhide HS).num (unhide M0) (by omega) x.id 2 (by have := unhide HSX; omega)).mono ?_
      rintro e w_1 ⟨rfl, hY⟩
      have HY_1 := hide hY
      have M_1 : Hid (Most (stepW s0 (wNumber x.id 2)) 1004) := hide (((unhide M0).step (Most.kd (Kd.num 2) (.int .i64 x.id))).mono (by simp only [Kd.n]; omega))
      clear hY cb ce
      have cb : w_1.cell? ⟨B, 0, none⟩ = some (.slice (some ⟨q, off, none⟩) t.st.length cS) := (unhide HY_1).cell 0
      have ce := (unhide HK _ (unhide HY_1).fr).2.1
      go_wp2_with fail
      refine ((unhide HY_1).num (unhide M_1) (by omega) x.zone 1 (by have := unhide HSX; omega)).mono ?_
      rintro e w_2 ⟨rfl, hY⟩
      have HY_2 := hide hY
      have M_2 : Hid (Most (stepW (stepW s0 (wNumber x.id 2)) (wNumber x.zone 1)) 1005) := hide (((unhide M_1).step (Most.kd (Kd.num 1) (.int .i64 x.zone))).mono (by simp only [Kd.n]; omega))
      clear hY cb ce
      have cb : w_2.cell? ⟨B, 0, none⟩ = some (.slice (some ⟨q, off, none⟩) t.st.length cS) := (unhide HY_2).cell 0
      have ce := (unhide HK _ (unhide HY_2).fr).2.2
      go_wp2_with fail
      refine ((unhide HY_2).num (unhide M_2) (by omega) x.group 2 (by have := unhide HSX; omega)).mono ?_
      rintro e w_3 ⟨rfl, hY⟩
      have HY_3 := hide hY
      have M_3 : Hid (Most (stepW (stepW (stepW s0 (wNumber x.id 2)) (wNumber x.zone 1)) (wNumber x.group 2)) 1007) := hide (((unhide M_2).step (Most.kd (Kd.num 2) (.int .i64 x.group))).mono (by simp only [Kd.n]; omega))
      clear hY cb ce
      have HP2 : Hid (YW w w_3 p B (stepW st1 (wrN stationK ((t.st.take (i + 1)).map stC))) #[.slice (some ⟨q, off, none⟩) t.st.length cS, .slice aP t.sp.length cP, .slice aB t.bd.length cB, .float .f64 t.off, .int .i64 t.bus, .int .i64 t.busDaily, .int .i64 t.busWeekly, .int .i64 t.hopper, .int .i64 t.most, .int .i64 t.longest, .int .i64 t.change, .int .i64 t.passback, .int .i64 t.delay, .int .i64 t.threshold] 27) := hide (by
        have h1 := unhide HY_3
        simp only [stepW_assoc] at h1
        rw [unhide HNX]
        unfold stC
        rw [wr3]
        exact h1)
      have cb : w_3.cell? ⟨B, 0, none⟩ = some (.slice (some ⟨q, off, none⟩) t.st.length cS) := (unhide HP2).cell 0
      go_wp2
      exact ⟨⟨i + 1, by omega, by go_num, unhide HP2⟩, by simp [intOf]; omega⟩
    · obtain rfl : i = t.st.length := by omega
      have e : stepW st1 (wrN stationK ((t.st.take t.st.length).map stC)) = stepW st1 (wrN stationK (t.st.map stC)) := by rw [List.take_length]
      rw [e] at HS
      obtain ⟨st2, HS2⟩ : ∃ s, Hid (s = stepW st1 (wrN stationK (t.st.map stC))) := ⟨_, rfl⟩
      rw [← unhide HS2] at HS
      have HY2 := HS
      have HM2 : Hid (Most st2 1002) := hide (by
        rw [unhide HS2]
        refine ((unhide HM1).step (Most.wrN _ _)).mono ?_
        simp only [wide, List.foldr, Kd.n, List.length_map]
        omega)
      obtain ⟨w2, hw⟩ : ∃ v, v = wa := ⟨_, rfl⟩
      subst hw
      clear HS e
      have cb0 : w2.cell? ⟨B, 0, none⟩ = some (.slice aS t.st.length cS) := (unhide HY2).cell 0
      have cb1 : w2.cell? ⟨B, 1, none⟩ = some (.slice aP t.sp.length cP) := (unhide HY2).cell 1
      go_wp2_with fail
      clear cb0 cb1
      refine ((unhide HY2).cnt (unhide HM2) (by omega) (t.sp.length : Int) (by omega)).mono ?_
      rintro e w3 ⟨rfl, hY⟩
      obtain ⟨st3, HS3⟩ : ∃ s, Hid (s = stepW st2 (wCount (t.sp.length : Int))) := ⟨_, rfl⟩
      rw [← unhide HS3] at hY
      have HY3 := hide hY
      have HM3 : Hid (Most st3 1004) := hide (by rw [unhide HS3]; exact ((unhide HM2).step (Most.count _)).mono (by omega))
      clear hY HY2
      go_wp2
      go_loopw [7] (fun iv wr => ∃ i : Nat, i ≤ t.sp.length ∧ iv = .int .i64 i ∧ Hid (YW w wr p B (stepW st3 (wrN spanK ((t.sp.take i).map spC))) #[.slice aS t.st.length cS, .slice aP t.sp.length cP, .slice aB t.bd.length cB, .float .f64 t.off, .int .i64 t.bus, .int .i64 t.busDaily, .int .i64 t.busWeekly, .int .i64 t.hopper, .int .i64 t.most, .int .i64 t.longest, .int .i64 t.change, .int .i64 t.passback, .int .i64 t.delay, .int .i64 t.threshold] 27)) (fun iv _ => t.sp.length - (intOf iv).toNat)
      case atStart =>
        refine ⟨0, Nat.zero_le _, rfl, ?_⟩
        have e : stepW st3 (wrN spanK ((t.sp.take 0).map spC)) = st3 := by simp [wrN, stepW_nil]
        rw [e]
        exact unhide HY3
      case round =>
        clear HY3
        obtain ⟨i, hi, rfl, HS⟩ := hrel
        obtain ⟨wa, rfl⟩ : ∃ wa, wa = wr := ⟨_, rfl⟩
        by_cases hlt : i < t.sp.length
        · obtain ⟨s0, Hs0⟩ : ∃ s, Hid (s = stepW st3 (wrN spanK ((t.sp.take i).map spC))) := ⟨_, rfl⟩
          have M0 : Hid (Most s0 1634) := hide (by
            rw [unhide Hs0]
            refine ((unhide HM3).step (Most.wrN _ _)).mono ?_
            simp only [wide, List.foldr, Kd.n, List.length_map, List.length_take]
            omega)
          have HNX : Hid (stepW st3 (wrN spanK ((t.sp.take (i + 1)).map spC)) = stepW s0 (wrL spanK (spC t.sp[i]))) := hide (by
            rw [List.take_succ_eq_append_getElem hlt, List.map_append, List.map_cons, List.map_nil, wrN_snoc, ← stepW_assoc, ← unhide Hs0])
          rw [← unhide Hs0] at HS
          have hsm := (unhide HSM).sp _ (List.getElem_mem hlt)
          obtain ⟨q, off, ea, e0, e1, e2, e3, e4⟩ := (unhide HI).sp.sp hlt
          have HK : Hid (∀ w', Fr (fun _ => False) w w' → w'.cell? ⟨q, off + i * 5, none⟩ = some (.int .i64 t.sp[i].fr) ∧ w'.cell? ⟨q, off + i * 5 + 1, none⟩ = some (.int .i64 t.sp[i].to) ∧ w'.cell? ⟨q, off + i * 5 + 2, none⟩ = some (.int .i64 t.sp[i].single) ∧ w'.cell? ⟨q, off + i * 5 + 3, none⟩ = some (.int .i64 t.sp[i].daily) ∧ w'.cell? ⟨q, off + i * 5 + 4, none⟩ = some (.int .i64 t.sp[i].weekly)) := hide (fun w' hf => ⟨(hf.cell (a := ⟨q, off + i * 5, none⟩) (World.block_lt_of_cell? _ _ e0) (fun t => t)).trans e0, (hf.cell (a := ⟨q, off + i * 5 + 1, none⟩) (World.block_lt_of_cell? _ _ e1) (fun t => t)).trans e1, (hf.cell (a := ⟨q, off + i * 5 + 2, none⟩) (World.block_lt_of_cell? _ _ e2) (fun t => t)).trans e2, (hf.cell (a := ⟨q, off + i * 5 + 3, none⟩) (World.block_lt_of_cell? _ _ e3) (fun t => t)).trans e3, (hf.cell (a := ⟨q, off + i * 5 + 4, none⟩) (World.block_lt_of_cell? _ _ e4) (fun t => t)).trans e4⟩)
          generalize t.sp[i] = x at *
          have HSX := hide hsm
          simp only at ea
          subst ea
          clear hsm e0 e1 e2 e3 e4 Hs0
          have cb : wa.cell? ⟨B, 1, none⟩ = some (.slice (some ⟨q, off, none⟩) t.sp.length cP) := (unhide HS).cell 1
          have ce := (unhide HK _ (unhide HS).fr).1
          go_wp2_with fail
          refine ((unhide HS).num (unhide M0) (by omega) x.fr 1 (by have := unhide HSX; omega)).mono ?_
          rintro e w_1 ⟨rfl, hY⟩
          have HY_1 := hide hY
          have M_1 : Hid (Most (stepW s0 (wNumber x.fr 1)) 1635) := hide (((unhide M0).step (Most.kd (Kd.num 1) (.int .i64 x.fr))).mono (by simp only [Kd.n]; omega))
          clear hY cb ce
          have cb : w_1.cell? ⟨B, 1, none⟩ = some (.slice (some ⟨q, off, none⟩) t.sp.length cP) := (unhide HY_1).cell 1
          have ce := (unhide HK _ (unhide HY_1).fr).2.1
          go_wp2_with fail
          refine ((unhide HY_1).num (unhide M_1) (by omega) x.to 1 (by have := unhide HSX; omega)).mono ?_
          rintro e w_2 ⟨rfl, hY⟩
          have HY_2 := hide hY
          have M_2 : Hid (Most (stepW (stepW s0 (wNumber x.fr 1)) (wNumber x.to 1)) 1636) := hide (((unhide M_1).step (Most.kd (Kd.num 1) (.int .i64 x.to))).mono (by simp only [Kd.n]; omega))
          clear hY cb ce
          have cb : w_2.cell? ⟨B, 1, none⟩ = some (.slice (some ⟨q, off, none⟩) t.sp.length cP) := (unhide HY_2).cell 1
          have ce := (unhide HK _ (unhide HY_2).fr).2.2.1
          go_wp2_with fail
          refine ((unhide HY_2).num (unhide M_2) (by omega) x.single 4 (by have := unhide HSX; omega)).mono ?_
          rintro e w_3 ⟨rfl, hY⟩
          have HY_3 := hide hY
          have M_3 : Hid (Most (stepW (stepW (stepW s0 (wNumber x.fr 1)) (wNumber x.to 1)) (wNumber x.single 4)) 1640) := hide (((unhide M_2).step (Most.kd (Kd.num 4) (.int .i64 x.single))).mono (by simp only [Kd.n]; omega))
          clear hY cb ce
          have cb : w_3.cell? ⟨B, 1, none⟩ = some (.slice (some ⟨q, off, none⟩) t.sp.length cP) := (unhide HY_3).cell 1
          have ce := (unhide HK _ (unhide HY_3).fr).2.2.2.1
          go_wp2_with fail
          refine ((unhide HY_3).num (unhide M_3) (by omega) x.daily 4 (by have := unhide HSX; omega)).mono ?_
          rintro e w_4 ⟨rfl, hY⟩
          have HY_4 := hide hY
          have M_4 : Hid (Most (stepW (stepW (stepW (stepW s0 (wNumber x.fr 1)) (wNumber x.to 1)) (wNumber x.single 4)) (wNumber x.daily 4)) 1644) := hide (((unhide M_3).step (Most.kd (Kd.num 4) (.int .i64 x.daily))).mono (by simp only [Kd.n]; omega))
          clear hY cb ce
          have cb : w_4.cell? ⟨B, 1, none⟩ = some (.slice (some ⟨q, off, none⟩) t.sp.length cP) := (unhide HY_4).cell 1
          have ce := (unhide HK _ (unhide HY_4).fr).2.2.2.2
          go_wp2_with fail
          refine ((unhide HY_4).num (unhide M_4) (by omega) x.weekly 4 (by have := unhide HSX; omega)).mono ?_
          rintro e w_5 ⟨rfl, hY⟩
          have HY_5 := hide hY
          have M_5 : Hid (Most (stepW (stepW (stepW (stepW (stepW s0 (wNumber x.fr 1)) (wNumber x.to 1)) (wNumber x.single 4)) (wNumber x.daily 4)) (wNumber x.weekly 4)) 1648) := hide (((unhide M_4).step (Most.kd (Kd.num 4) (.int .i64 x.weekly))).mono (by simp only [Kd.n]; omega))
          clear hY cb ce
          have HP2 : Hid (YW w w_5 p B (stepW st3 (wrN spanK ((t.sp.take (i + 1)).map spC))) #[.slice aS t.st.length cS, .slice (some ⟨q, off, none⟩) t.sp.length cP, .slice aB t.bd.length cB, .float .f64 t.off, .int .i64 t.bus, .int .i64 t.busDaily, .int .i64 t.busWeekly, .int .i64 t.hopper, .int .i64 t.most, .int .i64 t.longest, .int .i64 t.change, .int .i64 t.passback, .int .i64 t.delay, .int .i64 t.threshold] 27) := hide (by
            have h1 := unhide HY_5
            simp only [stepW_assoc] at h1
            rw [unhide HNX]
            unfold spC
            rw [wr5]
            exact h1)
          have cb : w_5.cell? ⟨B, 1, none⟩ = some (.slice (some ⟨q, off, none⟩) t.sp.length cP) := (unhide HP2).cell 1
          go_wp2
          exact ⟨⟨i + 1, by omega, by go_num, unhide HP2⟩, by simp [intOf]; omega⟩
        · obtain rfl : i = t.sp.length := by omega
          have e : stepW st3 (wrN spanK ((t.sp.take t.sp.length).map spC)) = stepW st3 (wrN spanK (t.sp.map spC)) := by rw [List.take_length]
          rw [e] at HS
          obtain ⟨st4, HS4⟩ : ∃ s, Hid (s = stepW st3 (wrN spanK (t.sp.map spC))) := ⟨_, rfl⟩
          rw [← unhide HS4] at HS
          have HY4 := HS
          have HM4 : Hid (Most st4 1634) := hide (by
            rw [unhide HS4]
            refine ((unhide HM3).step (Most.wrN _ _)).mono ?_
            simp only [wide, List.foldr, Kd.n, List.length_map]
            omega)
          obtain ⟨w4, hw⟩ : ∃ v, v = wa := ⟨_, rfl⟩
          subst hw
          clear HS e
          have cb0 : w4.cell? ⟨B, 1, none⟩ = some (.slice aP t.sp.length cP) := (unhide HY4).cell 1
          have cb1 : w4.cell? ⟨B, 2, none⟩ = some (.slice aB t.bd.length cB) := (unhide HY4).cell 2
          go_wp2_with fail
          clear cb0 cb1
          refine ((unhide HY4).cnt (unhide HM4) (by omega) (t.bd.length : Int) (by omega)).mono ?_
          rintro e w5 ⟨rfl, hY⟩
          obtain ⟨st5, HS5⟩ : ∃ s, Hid (s = stepW st4 (wCount (t.bd.length : Int))) := ⟨_, rfl⟩
          rw [← unhide HS5] at hY
          have HY5 := hide hY
          have HM5 : Hid (Most st5 1636) := hide (by rw [unhide HS5]; exact ((unhide HM4).step (Most.count _)).mono (by omega))
          clear hY HY4
          go_wp2
          go_loopw [8] (fun iv wr => ∃ i : Nat, i ≤ t.bd.length ∧ iv = .int .i64 i ∧ Hid (YW w wr p B (stepW st5 (wrN bandK ((t.bd.take i).map bdC))) #[.slice aS t.st.length cS, .slice aP t.sp.length cP, .slice aB t.bd.length cB, .float .f64 t.off, .int .i64 t.bus, .int .i64 t.busDaily, .int .i64 t.busWeekly, .int .i64 t.hopper, .int .i64 t.most, .int .i64 t.longest, .int .i64 t.change, .int .i64 t.passback, .int .i64 t.delay, .int .i64 t.threshold] 27)) (fun iv _ => t.bd.length - (intOf iv).toNat)
          case atStart =>
            refine ⟨0, Nat.zero_le _, rfl, ?_⟩
            have e : stepW st5 (wrN bandK ((t.bd.take 0).map bdC)) = st5 := by simp [wrN, stepW_nil]
            rw [e]
            exact unhide HY5
          case round =>
            clear HY5
            obtain ⟨i, hi, rfl, HS⟩ := hrel
            obtain ⟨wa, rfl⟩ : ∃ wa, wa = wr := ⟨_, rfl⟩
            by_cases hlt : i < t.bd.length
            · obtain ⟨s0, Hs0⟩ : ∃ s, Hid (s = stepW st5 (wrN bandK ((t.bd.take i).map bdC))) := ⟨_, rfl⟩
              have M0 : Hid (Most s0 1668) := hide (by
                rw [unhide Hs0]
                refine ((unhide HM5).step (Most.wrN _ _)).mono ?_
                simp only [wide, List.foldr, Kd.n, List.length_map, List.length_take]
                omega)
              have HNX : Hid (stepW st5 (wrN bandK ((t.bd.take (i + 1)).map bdC)) = stepW s0 (wrL bandK (bdC t.bd[i]))) := hide (by
                rw [List.take_succ_eq_append_getElem hlt, List.map_append, List.map_cons, List.map_nil, wrN_snoc, ← stepW_assoc, ← unhide Hs0])
              rw [← unhide Hs0] at HS
              have hsm := (unhide HSM).bd _ (List.getElem_mem hlt)
              obtain ⟨q, off, ea, e0, e1⟩ := (unhide HI).bd.bd hlt
              have HK : Hid (∀ w', Fr (fun _ => False) w w' → w'.cell? ⟨q, off + i * 2, none⟩ = some (.int .i64 t.bd[i].1) ∧ w'.cell? ⟨q, off + i * 2 + 1, none⟩ = some (.int .i64 t.bd[i].2)) := hide (fun w' hf => ⟨(hf.cell (a := ⟨q, off + i * 2, none⟩) (World.block_lt_of_cell? _ _ e0) (fun t => t)).trans e0, (hf.cell (a := ⟨q, off + i * 2 + 1, none⟩) (World.block_lt_of_cell? _ _ e1) (fun t => t)).trans e1⟩)
              generalize t.bd[i] = x at *
              have HSX := hide hsm
              simp only at ea
              subst ea
              clear hsm e0 e1 Hs0
              have cb : wa.cell? ⟨B, 2, none⟩ = some (.slice (some ⟨q, off, none⟩) t.bd.length cB) := (unhide HS).cell 2
              have ce := (unhide HK _ (unhide HS).fr).1
              go_wp2_with fail
              refine ((unhide HS).num (unhide M0) (by omega) x.1 2 (by have := unhide HSX; omega)).mono ?_
              rintro e w_1 ⟨rfl, hY⟩
              have HY_1 := hide hY
              have M_1 : Hid (Most (stepW s0 (wNumber x.1 2)) 1670) := hide (((unhide M0).step (Most.kd (Kd.num 2) (.int .i64 x.1))).mono (by simp only [Kd.n]; omega))
              clear hY cb ce
              have cb : w_1.cell? ⟨B, 2, none⟩ = some (.slice (some ⟨q, off, none⟩) t.bd.length cB) := (unhide HY_1).cell 2
              have ce := (unhide HK _ (unhide HY_1).fr).2
              go_wp2_with fail
              refine ((unhide HY_1).num (unhide M_1) (by omega) x.2 2 (by have := unhide HSX; omega)).mono ?_
              rintro e w_2 ⟨rfl, hY⟩
              have HY_2 := hide hY
              have M_2 : Hid (Most (stepW (stepW s0 (wNumber x.1 2)) (wNumber x.2 2)) 1672) := hide (((unhide M_1).step (Most.kd (Kd.num 2) (.int .i64 x.2))).mono (by simp only [Kd.n]; omega))
              clear hY cb ce
              have HP2 : Hid (YW w w_2 p B (stepW st5 (wrN bandK ((t.bd.take (i + 1)).map bdC))) #[.slice aS t.st.length cS, .slice aP t.sp.length cP, .slice (some ⟨q, off, none⟩) t.bd.length cB, .float .f64 t.off, .int .i64 t.bus, .int .i64 t.busDaily, .int .i64 t.busWeekly, .int .i64 t.hopper, .int .i64 t.most, .int .i64 t.longest, .int .i64 t.change, .int .i64 t.passback, .int .i64 t.delay, .int .i64 t.threshold] 27) := hide (by
                have h1 := unhide HY_2
                simp only [stepW_assoc] at h1
                rw [unhide HNX]
                unfold bdC
                rw [wr2]
                exact h1)
              have cb : w_2.cell? ⟨B, 2, none⟩ = some (.slice (some ⟨q, off, none⟩) t.bd.length cB) := (unhide HP2).cell 2
              go_wp2
              exact ⟨⟨i + 1, by omega, by go_num, unhide HP2⟩, by simp [intOf]; omega⟩
            · obtain rfl : i = t.bd.length := by omega
              have e : stepW st5 (wrN bandK ((t.bd.take t.bd.length).map bdC)) = stepW st5 (wrN bandK (t.bd.map bdC)) := by rw [List.take_length]
              rw [e] at HS
              obtain ⟨st6, HS6⟩ : ∃ s, Hid (s = stepW st5 (wrN bandK (t.bd.map bdC))) := ⟨_, rfl⟩
              rw [← unhide HS6] at HS
              have HY6 := HS
              have HM6 : Hid (Most st6 1668) := hide (by
                rw [unhide HS6]
                refine ((unhide HM5).step (Most.wrN _ _)).mono ?_
                simp only [wide, List.foldr, Kd.n, List.length_map]
                omega)
              obtain ⟨w6, hw⟩ : ∃ v, v = wa := ⟨_, rfl⟩
              subst hw
              clear HS e
              have cb0 : w6.cell? ⟨B, 2, none⟩ = some (.slice aB t.bd.length cB) := (unhide HY6).cell 2
              have cb1 : w6.cell? ⟨B, 3, none⟩ = some (.float .f64 t.off) := (unhide HY6).cell 3
              go_wp2_with fail
              clear cb0 cb1
              refine ((unhide HY6).flt (unhide HM6) (by omega) t.off).mono ?_
              rintro e w7 ⟨rfl, hY⟩
              obtain ⟨st7, HS7⟩ : ∃ s, Hid (s = stepW st6 (wFloat t.off)) := ⟨_, rfl⟩
              rw [← unhide HS7] at hY
              have HY7 := hide hY
              have HM7 : Hid (Most st7 1676) := hide (by rw [unhide HS7]; exact ((unhide HM6).step (Most.kd Kd.float (.float .f64 t.off))).mono (by simp only [Kd.n]; omega))
              clear hY HY6
              have cb : w7.cell? ⟨B, 4, none⟩ = some (.int .i64 t.bus) := (unhide HY7).cell 4
              go_wp2_with fail
              refine ((unhide HY7).num (unhide HM7) (by omega) t.bus 4 (by have := (unhide HSM).bus; omega)).mono ?_
              rintro e w8 ⟨rfl, hY⟩
              obtain ⟨st8, HS8⟩ : ∃ s, Hid (s = stepW st7 (wNumber t.bus 4)) := ⟨_, rfl⟩
              rw [← unhide HS8] at hY
              have HY8 := hide hY
              have HM8 : Hid (Most st8 1680) := hide (by rw [unhide HS8]; exact ((unhide HM7).step (Most.kd (Kd.num 4) (.int .i64 t.bus))).mono (by simp only [Kd.n]; omega))
              clear hY HY7 cb
              have cb : w8.cell? ⟨B, 5, none⟩ = some (.int .i64 t.busDaily) := (unhide HY8).cell 5
              go_wp2_with fail
              refine ((unhide HY8).num (unhide HM8) (by omega) t.busDaily 4 (by have := (unhide HSM).busDaily; omega)).mono ?_
              rintro e w9 ⟨rfl, hY⟩
              obtain ⟨st9, HS9⟩ : ∃ s, Hid (s = stepW st8 (wNumber t.busDaily 4)) := ⟨_, rfl⟩
              rw [← unhide HS9] at hY
              have HY9 := hide hY
              have HM9 : Hid (Most st9 1684) := hide (by rw [unhide HS9]; exact ((unhide HM8).step (Most.kd (Kd.num 4) (.int .i64 t.busDaily))).mono (by simp only [Kd.n]; omega))
              clear hY HY8 cb
              have cb : w9.cell? ⟨B, 6, none⟩ = some (.int .i64 t.busWeekly) := (unhide HY9).cell 6
              go_wp2_with fail
              refine ((unhide HY9).num (unhide HM9) (by omega) t.busWeekly 4 (by have := (unhide HSM).busWeekly; omega)).mono ?_
              rintro e w10 ⟨rfl, hY⟩
              obtain ⟨st10, HS10⟩ : ∃ s, Hid (s = stepW st9 (wNumber t.busWeekly 4)) := ⟨_, rfl⟩
              rw [← unhide HS10] at hY
              have HY10 := hide hY
              have HM10 : Hid (Most st10 1688) := hide (by rw [unhide HS10]; exact ((unhide HM9).step (Most.kd (Kd.num 4) (.int .i64 t.busWeekly))).mono (by simp only [Kd.n]; omega))
              clear hY HY9 cb
              have cb : w10.cell? ⟨B, 7, none⟩ = some (.int .i64 t.hopper) := (unhide HY10).cell 7
              go_wp2_with fail
              refine ((unhide HY10).num (unhide HM10) (by omega) t.hopper 2 (by have := (unhide HSM).hopper; omega)).mono ?_
              rintro e w11 ⟨rfl, hY⟩
              obtain ⟨st11, HS11⟩ : ∃ s, Hid (s = stepW st10 (wNumber t.hopper 2)) := ⟨_, rfl⟩
              rw [← unhide HS11] at hY
              have HY11 := hide hY
              have HM11 : Hid (Most st11 1690) := hide (by rw [unhide HS11]; exact ((unhide HM10).step (Most.kd (Kd.num 2) (.int .i64 t.hopper))).mono (by simp only [Kd.n]; omega))
              clear hY HY10 cb
              have cb : w11.cell? ⟨B, 8, none⟩ = some (.int .i64 t.most) := (unhide HY11).cell 8
              go_wp2_with fail
              refine ((unhide HY11).num (unhide HM11) (by omega) t.most 4 (by have := (unhide HSM).most; omega)).mono ?_
              rintro e w12 ⟨rfl, hY⟩
              obtain ⟨st12, HS12⟩ : ∃ s, Hid (s = stepW st11 (wNumber t.most 4)) := ⟨_, rfl⟩
              rw [← unhide HS12] at hY
              have HY12 := hide hY
              have HM12 : Hid (Most st12 1694) := hide (by rw [unhide HS12]; exact ((unhide HM11).step (Most.kd (Kd.num 4) (.int .i64 t.most))).mono (by simp only [Kd.n]; omega))
              clear hY HY11 cb
              have cb : w12.cell? ⟨B, 9, none⟩ = some (.int .i64 t.longest) := (unhide HY12).cell 9
              go_wp2_with fail
              refine ((unhide HY12).num (unhide HM12) (by omega) t.longest 2 (by have := (unhide HSM).longest; omega)).mono ?_
              rintro e w13 ⟨rfl, hY⟩
              obtain ⟨st13, HS13⟩ : ∃ s, Hid (s = stepW st12 (wNumber t.longest 2)) := ⟨_, rfl⟩
              rw [← unhide HS13] at hY
              have HY13 := hide hY
              have HM13 : Hid (Most st13 1696) := hide (by rw [unhide HS13]; exact ((unhide HM12).step (Most.kd (Kd.num 2) (.int .i64 t.longest))).mono (by simp only [Kd.n]; omega))
              clear hY HY12 cb
              have cb : w13.cell? ⟨B, 10, none⟩ = some (.int .i64 t.change) := (unhide HY13).cell 10
              go_wp2_with fail
              refine ((unhide HY13).num (unhide HM13) (by omega) t.change 2 (by have := (unhide HSM).change; omega)).mono ?_
              rintro e w14 ⟨rfl, hY⟩
              obtain ⟨st14, HS14⟩ : ∃ s, Hid (s = stepW st13 (wNumber t.change 2)) := ⟨_, rfl⟩
              rw [← unhide HS14] at hY
              have HY14 := hide hY
              have HM14 : Hid (Most st14 1698) := hide (by rw [unhide HS14]; exact ((unhide HM13).step (Most.kd (Kd.num 2) (.int .i64 t.change))).mono (by simp only [Kd.n]; omega))
              clear hY HY13 cb
              have cb : w14.cell? ⟨B, 11, none⟩ = some (.int .i64 t.passback) := (unhide HY14).cell 11
              go_wp2_with fail
              refine ((unhide HY14).num (unhide HM14) (by omega) t.passback 2 (by have := (unhide HSM).passback; omega)).mono ?_
              rintro e w15 ⟨rfl, hY⟩
              obtain ⟨st15, HS15⟩ : ∃ s, Hid (s = stepW st14 (wNumber t.passback 2)) := ⟨_, rfl⟩
              rw [← unhide HS15] at hY
              have HY15 := hide hY
              have HM15 : Hid (Most st15 1700) := hide (by rw [unhide HS15]; exact ((unhide HM14).step (Most.kd (Kd.num 2) (.int .i64 t.passback))).mono (by simp only [Kd.n]; omega))
              clear hY HY14 cb
              have cb : w15.cell? ⟨B, 12, none⟩ = some (.int .i64 t.delay) := (unhide HY15).cell 12
              go_wp2_with fail
              refine ((unhide HY15).num (unhide HM15) (by omega) t.delay 2 (by have := (unhide HSM).delay; omega)).mono ?_
              rintro e w16 ⟨rfl, hY⟩
              obtain ⟨st16, HS16⟩ : ∃ s, Hid (s = stepW st15 (wNumber t.delay 2)) := ⟨_, rfl⟩
              rw [← unhide HS16] at hY
              have HY16 := hide hY
              have HM16 : Hid (Most st16 1702) := hide (by rw [unhide HS16]; exact ((unhide HM15).step (Most.kd (Kd.num 2) (.int .i64 t.delay))).mono (by simp only [Kd.n]; omega))
              clear hY HY15 cb
              have cb : w16.cell? ⟨B, 13, none⟩ = some (.int .i64 t.threshold) := (unhide HY16).cell 13
              go_wp2_with fail
              refine ((unhide HY16).num (unhide HM16) (by omega) t.threshold 4 (by have := (unhide HSM).threshold; omega)).mono ?_
              rintro e w17 ⟨rfl, hY⟩
              obtain ⟨st17, HS17⟩ : ∃ s, Hid (s = stepW st16 (wNumber t.threshold 4)) := ⟨_, rfl⟩
              rw [← unhide HS17] at hY
              have HY17 := hide hY
              have HM17 : Hid (Most st17 1706) := hide (by rw [unhide HS17]; exact ((unhide HM16).step (Most.kd (Kd.num 4) (.int .i64 t.threshold))).mono (by simp only [Kd.n]; omega))
              clear hY HY16 cb
              have hZ : st17 = Z := by
                rw [← unhide HZ, unhide HS17, unhide HS16, unhide HS15, unhide HS14, unhide HS13, unhide HS12, unhide HS11, unhide HS10, unhide HS9, unhide HS8, unhide HS7, unhide HS6, unhide HS5, unhide HS4, unhide HS3, unhide HS2, unhide HS1, unhide HS0]
              rw [hZ] at HY17
              clear hZ
              go_wp2_with fail
              refine ((unhide HY17).bytes (unhide HM) (by omega)).mono ?_
              rintro e w99 ⟨ao, cap, gb, rfl, h2⟩
              have H4 := hide h2
              clear h2
              go_wp2
              go_ret2
              exact ⟨ao, cap, gb, rfl, unhide H4⟩

theorem refTariff_any (t : Tf) (A : Ad) (w : World) (h : TAt w A t) : Calls Tryz.prog 8 #[tv A t] w (Wrote w (tarW t).1 (tarW t).2) := by
  unfold tarW
  rcases rightE_cases t with e | e | e | e
  · rw [if_pos e]
    exact refTariff_good t A w h e
  all_goals
    rw [if_neg (by omega)]
    have := refTariff_bad t A w h (rightE t) (by omega) rfl
    exact this

end Go.Proofs.YtkjoojamkbpfcaaGreat

