import Derived.Test.YtabhfeocelljdaaGreatDoorI2
/- The law's own function Owned: its walk. -/
namespace Go.Proofs.YtabhfeocelljdaaGreatDoor
open Go.RowKit

/-- Within the marking of a row. -/
def Marking (wr wa : World) (rb i : Nat) (d : RD) (vs0 : List Value) (m : Int) (k : Nat) : Prop :=
  VRow wa d.ao d.cap d.g (List.replicate k (.int .u8 m) ++ vs0.drop k) ∧ Fr (fun x => x = d.g ∧ 0 < d.cap) wr wa ∧ wa.cell? ⟨rb, i, none⟩ = some d.val

theorem Marking.next {wr wa : World} {rb i : Nat} {d : RD} {vs0 : List Value} {m : Int} {k : Nat} (h : Marking wr wa rb i d vs0 m k) (hk : k < vs0.length) (hc : 0 < d.cap) (hne : d.g ≠ rb) : Marking wr (wa.setCell ⟨d.g, k, none⟩ (.int .u8 m)) rb i d vs0 m (k + 1) := by
  obtain ⟨h1, h2, h3⟩ := h
  refine ⟨?_, h2.setCell (p := ⟨d.g, k, none⟩) (fun _ => ⟨rfl, hc⟩) _, ?_⟩
  · rw [← marks_set vs0 k hk]
    exact h1.set k (by simp; omega) _ rfl
  · rw [World.cell?_setCell_other _ _ _ _ (by intro t; injection t with t1 t2; exact hne t1)]
    exact h3

set_option maxHeartbeats 4000000 in
set_option maxRecDepth 100000 in
theorem owned_any (w : World) (ro : Option Addr) (rb N rcap : Nat) (hro : 0 < N → ro = some ⟨rb, 0, none⟩) (ds : Nat → RD) (hH : Handed w rb N ds) :
    Calls Tryz.prog 14 #[.slice ro N rcap] w fun e w' => e = .returned (.bool true) ∧ Fr (fun k => ∃ j, j < N ∧ 0 < (ds j).cap ∧ k = (ds j).g) w w' := by
  obtain ⟨i5, hi5, hz50, hz51, hz52⟩ := info_parts Tryz.info5
  obtain ⟨i2, hi2, hz20, hz21, hz22⟩ := info_parts Tryz.info23
  have HI := hide (And.intro hi5 hi2)
  have HH := hide hH
  have HRO := hide hro
  have hfew := hH.few
  clear hi5 hi2 hH hro
  go_enter Tryz.func14, Tryz.ntmps14
  go_wp2
  go_loopw [3, 4, 5, 6, 7, 8] (fun lv iv _ _ _ _ wr => ∃ i : Nat, i ≤ N ∧ iv = .int .i64 i ∧ ∃ lo lcap lg vs, lv = .slice lo (2 * i) lcap ∧ Hid (OSt w wr ds N i lo lcap lg vs)) (fun _ iv _ _ _ _ _ => N - (intOf iv).toNat)
  case atStart => exact ⟨0, Nat.zero_le _, rfl, none, 0, 0, [], rfl, OSt.start (unhide HH)⟩
  case round =>
    obtain ⟨i, hiN, rfl, lo, lcap, lg, vs, rfl, HS⟩ := hrel
    by_cases hlt : i < N
    · obtain rfl := unhide HRO (by omega)
      have hdr := (unhide HS).hdr (unhide HH) hlt
      have hown := (unhide HS).own i (Nat.le_refl _) hlt
      have hfit := (unhide HH).fit i hlt
      have hrbne := (unhide HH).hd i hlt
      have hlow := fun hc => (unhide HH).low hlt hc
      have hszr := (unhide HS).fr.size
      obtain ⟨d, hd⟩ : ∃ d, ds i = d := ⟨_, rfl⟩
      rw [hd] at hdr hown hfit hrbne hlow
      have HD := hide hd
      clear hd
      obtain ⟨ao, n, cap, g⟩ := d
      have hdr' : wr.cell? ⟨rb, i, none⟩ = some (.slice ao n cap) := hdr
      have hfit' : n + 9 ≤ 140737488355328 := hfit
      obtain ⟨vs0, hvl, hvr⟩ := hown
      have hvl' : vs0.length = n := hvl
      have hM0 : Marking wr wr rb i ⟨ao, n, cap, g⟩ vs0 (mI i) 0 := ⟨by simpa using hvr, Fr.refl _ _, hdr⟩
      have HM := hide (And.intro hM0 (And.intro hvl' (And.intro hrbne hlow)))
      clear hdr hfit hvl hvr hM0 hvl' hrbne hlow
      obtain ⟨m, hm⟩ : ∃ m, mI i = m := ⟨_, rfl⟩
      rw [hm] at HM
      have HMI := hide hm
      clear hm
      rename World => wo
      go_wp2
      rw [show (1 + (i : Int) % 250) = m from unhide HMI]
      go_loopw [6] (fun kv wr => ∃ k : Nat, k ≤ n ∧ kv = .int .i64 k ∧ Hid (Marking wo wr rb i ⟨ao, n, cap, g⟩ vs0 m k)) (fun kv _ => n - (intOf kv).toNat)
      case atStart => exact ⟨0, Nat.zero_le _, rfl, (unhide HM).1⟩
      case round =>
        obtain ⟨k, hkn, rfl, HK⟩ := hrel
        have hdk : wr.cell? ⟨rb, i, none⟩ = some (.slice ao n cap) := (unhide HK).2.2
        by_cases hk : k < n
        · have hcap : 0 < cap := by
            have := (unhide HK).1.le
            rw [List.length_append, List.length_replicate, List.length_drop, (unhide HM).2.1] at this
            have h9 : k + (n - k) ≤ cap := this
            omega
          obtain rfl : ao = some ⟨g, 0, none⟩ := (unhide HK).1.ad hcap
          have ck := (unhide HK).1.room k (by
            have := (unhide HK).1.le
            rw [List.length_append, List.length_replicate, List.length_drop, (unhide HM).2.1] at this
            have h9 : k + (n - k) ≤ cap := this
            show k < cap
            omega)
          obtain ⟨c0, ck1⟩ := Option.isSome_iff_exists.1 ck.1
          have ck2 : wr.frozen? ⟨g, k, none⟩ = false := ck.2
          have ck3 : wr.cell? ⟨g, k, none⟩ = some c0 := ck1
          have hN2 := (unhide HK).next (by rw [(unhide HM).2.1]; exact hk) hcap ((unhide HM).2.2.1 hcap)
          have HN := hide hN2
          clear ck ck1 hN2
          have hkI : (k : Int) < (n : Int) := by omega
          go_wp2
          exact ⟨⟨k + 1, by omega, by go_num, unhide HN⟩, by simp [intOf]; omega⟩
        · obtain rfl : n = k := by omega
          have hG0 : Grown9 wo wr ⟨ao, n, cap, g⟩ m ao cap g 0 := by
            have h1 := (unhide HK).1
            rw [List.drop_of_length_le (by rw [(unhide HM).2.1]; exact Nat.le_refl _), List.append_nil] at h1
            refine Grown9.start (unhide HK).2.1 h1 (fun hn => ?_)
            have hc : 0 < cap := by
              have := h1.le
              rw [List.length_replicate] at this
              have hn' : 0 < n := hn
              have h9 : n ≤ cap := this
              omega
            exact Nat.lt_of_lt_of_le ((unhide HM).2.2.2 hc) hszr
          have HG0 := hide hG0
          clear hG0 HK
          go_wp2
          clear hdk
          go_loopw [7, 8] (fun gv kv wr => ∃ k : Nat, k ≤ 9 ∧ kv = .int .i64 k ∧ ∃ go gcap gg, gv = .slice go (n + k) gcap ∧ Hid (Grown9 wo wr ⟨ao, n, cap, g⟩ m go gcap gg k)) (fun _ kv _ => 9 - (intOf kv).toNat)
          case atStart => exact ⟨0, by omega, rfl, ao, cap, g, rfl, unhide HG0⟩
          case round =>
            obtain ⟨k, hk9, rfl, go, gcap, gg, rfl, HG⟩ := hrel
            by_cases hk : k < 9
            · go_wp2_with (at_builtin; refine wpList_append_vrow _ rfl (.tmp 45) (.tmp 47) 23 23 rfl 5 i5 (.int .u8 0) Tryz.underlying23 (unhide HI).1 hz50 rfl hz51 (ao := go) (cap := gcap) (g := gg) (n := n + k) (vs := List.replicate (n + k) (.int .u8 m)) rfl ((unhide HG).row.stay (fun hc => Below.heap_alloc _ _ _ ((unhide HG).row.lt hc))) (by simp) _ [.int .u8 m] 1 rfl rfl (src_mark wr m) (by rw [hz52]; omega) (by omega) ?_)
              intro go' gcap' w3 gg' hrow hgr
              have HN := hide ((unhide HG).next _ hrow hgr)
              clear hrow hgr
              go_wp2
              exact ⟨⟨k + 1, by omega, by go_num, go', gcap', gg', rfl, unhide HN⟩, by simp [intOf]; omega⟩
            · obtain rfl : 9 = k := by omega
              have hdk : wr.cell? ⟨rb, i, none⟩ = some (.slice ao n cap) := ((unhide HG).fr.cell (a := ⟨rb, i, none⟩) (World.block_lt_of_cell? _ _ hdr') (fun t => (unhide HM).2.2.1 t.2 t.1.symm)).trans hdr'
              have hlr : VRow wr lo lcap lg vs := (unhide HS).lrow.stay (fun hc => (unhide HG).fr.block lg ((unhide HS).lrow.lt hc) (fun t => by
                have h1 := (unhide HS).lnew hc
                have h2 := (unhide HM).2.2.2 t.2
                have h3 : lg = g := t.1
                have h4 : g < w.heap.size := h2
                omega))
              have HLR := hide hlr
              have hln := (unhide HS).len
              clear hlr
              go_wp2_with (at_builtin; refine wpList_append_vrow _ rfl (.tmp 49) (.tmp 55) 22 22 rfl 23 i2 (.slice none 0 0) Tryz.underlying22 (unhide HI).2 hz20 rfl hz21 (ao := lo) (cap := lcap) (g := lg) (n := 2 * i) (vs := vs) rfl ((unhide HLR).stay (fun hc => Below.heap_alloc _ _ _ ((unhide HLR).lt hc))) hln _ [.slice go (n + 9) gcap, .slice ao n cap] 2 rfl rfl (src_pair wr _ _ rfl rfl) (by rw [hz22]; omega) (by omega) ?_)
              intro lo' lcap' w3 lg' hrow hgr
              have hGd : Grown9 wo wr (ds i) (mI i) go gcap gg 9 := by rw [unhide HD, unhide HMI]; exact unhide HG
              have hrow' : VRow w3 lo' lcap' lg' (vs ++ [.slice go ((ds i).n + 9) gcap, (ds i).val]) := by rw [unhide HD]; exact hrow
              have hnx := OSt.next (unhide HH) (unhide HS) hlt hGd _ hrow' hgr
              have HN := hide hnx
              clear hrow hgr hGd hrow' hnx
              go_wp2
              exact ⟨⟨i + 1, by omega, by go_num, lo', lcap', lg', _, rfl, unhide HN⟩, by simp [intOf]; omega⟩
    · obtain rfl : N = i := by omega
      have HF := hide (unhide HS).fr
      have hln := (unhide HS).len
      rename World => wo
      go_wp2
      go_loopw [9, 10] (fun av _ wr => ∃ a : Nat, a ≤ 2 * N ∧ av = .int .i64 a ∧ wo = wr) (fun av _ _ => 2 * N - (intOf av).toNat)
      case atStart => exact ⟨0, by omega, rfl, rfl⟩
      case round =>
        obtain ⟨a, ha, rfl, rfl⟩ := hrel
        by_cases hal : a < 2 * N
        · have hav : a < vs.length := by omega
          have hlc := (unhide HS).lrow.le
          obtain rfl : lo = some ⟨lg, 0, none⟩ := (unhide HS).lrow.ad (by omega)
          have ca := (unhide HS).lrow.cells a hav
          obtain ⟨ao, n, cap, g, h1, h2, h3, h4, _⟩ := (unhide HS).seen a hav
          rw [h1] at ca
          have e4 : mI (a / 2) = 1 + (a : Int) / 2 % 250 := by unfold mI; omega
          rw [e4] at h4
          have HC := hide (And.intro h3 h4)
          clear h1 h3 h4 e4
          go_wp2
          go_loopw [10] (fun kv wr => ∃ k : Nat, k ≤ n ∧ kv = .int .i64 k ∧ wo = wr) (fun kv _ => n - (intOf kv).toNat)
          case atStart => exact ⟨0, Nat.zero_le _, rfl, rfl⟩
          case round =>
            obtain ⟨k, hk, rfl, rfl⟩ := hrel
            by_cases hkn : k < n
            · obtain rfl : ao = some ⟨g, 0, none⟩ := (unhide HC).1 (by omega)
              have ck := (unhide HC).2 k hkn
              have hkI : (k : Int) < (n : Int) := by omega
              have hse : ((1 + (a : Int) / 2 % 250) == (1 + (a : Int) / 2 % 250)) = true := by simp
              go_wp2
              exact ⟨⟨k + 1, by omega, by go_num, trivial⟩, by simp [intOf]; omega⟩
            · obtain rfl : n = k := by omega
              go_wp2
              exact ⟨⟨a + 1, by omega, by go_num, trivial⟩, by simp [intOf]; omega⟩
        · go_wp2
          go_ret
          exact ⟨rfl, unhide HF⟩

end Go.Proofs.YtabhfeocelljdaaGreatDoor

