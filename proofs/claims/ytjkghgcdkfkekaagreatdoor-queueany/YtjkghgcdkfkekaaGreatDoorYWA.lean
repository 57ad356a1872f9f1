import Derived.Test.YtjkghgcdkfkekaaGreatDoorYW9
import Derived.Test.YtjkghgcdkfkekaaGreatDoorX0
import Derived.Sort.OwnSortedInts
/- Contract: unusedEpoch. -/
namespace Go.Proofs.YtjkghgcdkfkekaaGreatDoor
open Go.RowKit

/-- The stamps of a half's first sectors. -/
def stamps (c : Nat → Bs) (first t : Nat) : List Int := (List.range t).map fun j => ((mrk (c (first + j)) : Nat) : Int)
theorem stamps_length (c : Nat → Bs) (first t : Nat) : (stamps c first t).length = t := by simp [stamps]
theorem stamps_snoc (c : Nat → Bs) (first t : Nat) : stamps c first (t + 1) = stamps c first t ++ [((mrk (c (first + t)) : Nat) : Int)] := by
  simp [stamps, List.range_succ]
def intsV (zs : List Int) : List Value := zs.map (Value.int .i64)
theorem intsV_length (zs : List Int) : (intsV zs).length = zs.length := by simp [intsV]

theorem infoI : (Tryz.prog.info? 3).map (fun i => (i.zero, i.size, i.bytes)) = some (some (.int .i64 0), 1, 8) := by kernel_rfl

/-- What the search has passed over. -/
def Past (ss : List Int) (i : Nat) (E : Int) : Prop := (∀ j (h : j < ss.length), j < i → ss[j] ≠ E) ∧ ((∀ j (h : j < ss.length), j < i → ss[j] < E) ∨ ∃ j, ∃ h : j < ss.length, j < i ∧ E < ss[j])

theorem Past.same {ss : List Int} (hs : ss.Pairwise (· ≤ ·)) {i : Nat} {E : Int} (h : Past ss i E) (hi : i < ss.length) (he : ss[i] = E) : Past ss (i + 1) (E + 1) := by
  have hall : ∀ j (h : j < ss.length), j < i + 1 → ss[j] < E + 1 := by
    intro j hj hji
    by_cases hl : j < i
    · rcases h.2 with h2 | ⟨k, hk, hki, hlt⟩
      · have := h2 j hj hl; omega
      · have := List.pairwise_iff_getElem.1 hs k i hk hi hki; omega
    · obtain rfl : j = i := by omega
      omega
  exact ⟨fun j hj hji => by have := hall j hj hji; omega, .inl hall⟩

theorem Past.other {ss : List Int} {i : Nat} {E : Int} (h : Past ss i E) (hi : i < ss.length) (he : ss[i] ≠ E) : Past ss (i + 1) E := by
  refine ⟨fun j hj hji => ?_, ?_⟩
  · by_cases hl : j < i
    · exact h.1 j hj hl
    · obtain rfl : j = i := by omega
      exact he
  · rcases h.2 with h2 | ⟨k, hk, hki, hlt⟩
    · by_cases hx : ss[i] < E
      · refine .inl fun j hj hji => ?_
        by_cases hl : j < i
        · exact h2 j hj hl
        · obtain rfl : j = i := by omega
          exact hx
      · exact .inr ⟨i, hi, by omega, by omega⟩
    · exact .inr ⟨k, hk, by omega, hlt⟩

theorem Past.start (ss : List Int) (E : Int) : Past ss 0 E := ⟨fun j _ h => absurd h (by omega), .inl fun j _ h => absurd h (by omega)⟩

set_option maxHeartbeats 2000000 in
set_option maxRecDepth 20000 in
theorem unused_any (w : World) (R : Nat → Nat) (p b : Nat) (d : Dk) (h : Dsk w R p b d.many) (hD : DAt w R b d) (hup : d.down = false) (first H above : Nat) (hfh : first + H ≤ d.many) (h1H : 1 ≤ H) (hH : H ≤ 524287) (hA : above < 4611686018427387904) :
    Calls Tryz.prog 86 #[.agg #[.pointer (some ⟨p, 0, none⟩), .int .i64 (first : Int), .int .i64 (H : Int)], .int .i64 (above : Int)] w fun e w' => ∃ G : Nat, above < G ∧ G ≤ above + 1 + H ∧ (∀ i, i < H → mrk (d.look (first + i)) ≠ G) ∧ e = .returned (.tuple #[.int .i64 (G : Int), .nilIface]) ∧ Fr (fun _ => False) w w' := by
  obtain ⟨i0, hi, hzz⟩ := Option.map_eq_some_iff.1 infoI
  simp only [Prod.mk.injEq] at hzz
  obtain ⟨hz0, hz1, hz2⟩ := hzz
  have HI := hide (And.intro hi (And.intro hz0 (And.intro hz1 hz2)))
  have hmany := hD.many
  have hfi : (first : Int) + (H : Int) ≤ 4294967296 := by omega
  have hHi : (H : Int) ≤ 524287 := by omega
  have hAi : (above : Int) < 4611686018427387904 := by omega
  have hA0 : (0 : Int) ≤ (above : Int) := by omega
  have hok := hD.ok
  have HH := hide (And.intro h (And.intro hD (And.intro hup (And.intro hfh (And.intro hH (And.intro h1H hok))))))
  clear h hD hup hfh hH h1H hok hi hz0 hz1 hz2 hmany hA
  go_enter Tryz.func86, Tryz.ntmps86
  go_wp2
  have hF0 : Fr (fun _ => False) w (w.alloc (.cells #[.pointer (some ⟨p, 0, none⟩), .int .i64 (first : Int), .int .i64 (H : Int)] 96)) := (Fr.refl _ _).alloc _
  have hbx := Bx.new w #[.pointer (some ⟨p, 0, none⟩), .int .i64 (first : Int), .int .i64 (H : Int)] 96
  generalize w.alloc (.cells #[.pointer (some ⟨p, 0, none⟩), .int .i64 (first : Int), .int .i64 (H : Int)] 96) = w0 at *
  have HW := hide (And.intro hF0 hbx)
  clear hF0 hbx
  go_loopw [6, 15] (fun pv iv wr => ∃ t : Nat, t ≤ H ∧ iv = .int .i64 t ∧ ∃ ao cap g, pv = .slice ao t cap ∧ Hid (VRow wr ao cap g (intsV (stamps d.look first t)) ∧ Fr (fun _ => False) w wr ∧ Bx wr w.heap.size #[.pointer (some ⟨p, 0, none⟩), .int .i64 (first : Int), .int .i64 (H : Int)] 96 ∧ w.heap.size < g)) (fun _ iv _ => H - (intOf iv).toNat)
  case atStart => exact ⟨0, Nat.zero_le _, rfl, none, 0, w.heap.size + 1, rfl, VRow.nil _ _, (unhide HW).1, (unhide HW).2, by omega⟩
  case round =>
    obtain ⟨t, ht, rfl, ao, cap, g, rfl, HR⟩ := hrel
    obtain ⟨h, hD, hup, hfh, hH, h1H, hok⟩ := unhide HH
    obtain ⟨hrow, hF, hbx, hgw⟩ := unhide HR
    by_cases hlt : t < H
    · have hti : (t : Int) < (H : Int) := by omega
      have ht0 : (0 : Int) ≤ (first : Int) + (t : Int) := by omega
      have k0 : wr.cell? ⟨w.heap.size, 0, none⟩ = some (.pointer (some ⟨p, 0, none⟩)) := hbx.cell 0
      have k1 : wr.cell? ⟨w.heap.size, 1, none⟩ = some (.int .i64 (first : Int)) := hbx.cell 1
      have hl512 : (d.look (first + t)).length = 512 := hok.look _
      have hsn := stamps_snoc d.look first t
      have RD := read_any wr R p b d (h.frame hF (fun _ _ t => t) (UpR.refl _ _)) (hD.frame hF (fun _ t => t.elim)) hup (first + t) (by omega)
      rw [show ((first + t : Nat) : Int) = (first : Int) + (t : Int) by omega] at RD
      have HK := hide (And.intro RD (And.intro hl512 hsn))
      clear RD hl512 hsn hrow hF hbx hgw h hD hup hok hfh
      generalize hL : d.look (first + t) = L at *
      have HL := hide hL
      clear hL
      go_wp2_with fail
      refine (unhide HK).1.mono ?_
      rintro e w1 ⟨g1, rfl, hg1, hF1, hgl⟩
      have HR1 := hide (And.intro hg1 (And.intro hF1 hgl))
      clear hg1 hF1 hgl k0 k1
      go_wp2_with fail
      refine (stampOf_any _ g1 L (unhide HR1).1 (unhide HK).2.1).mono ?_
      rintro e w2 ⟨rfl, hF2⟩
      obtain ⟨hrow, hF, hbx, hgw⟩ := unhide HR
      have hF12 := (unhide HR1).2.1.trans hF2 (fun _ _ t => t)
      have hrow2 : VRow w2 ao cap g (intsV (stamps d.look first t)) := hrow.stay (fun hc => hF12.block g (hrow.lt hc) (fun t => t))
      have hvl : (intsV (stamps d.look first t)).length = t := by rw [intsV_length, stamps_length]
      have HR2 := hide (And.intro hrow2 (And.intro (hbx.keep hF12) (And.intro (hF.trans hF12 (fun _ _ t => t)) (And.intro hgw (And.intro hvl (And.intro hH hlt))))))
      clear hF2 hrow hF hbx hgw hF12 hrow2 hvl hH h1H
      generalize hM : mrk L = M at *
      have HM := hide hM
      clear hM
      go_wp2_with (at_builtin; refine wpList_append_vrow _ rfl (.tmp 31) (.tmp 34) 195 195 rfl 3 i0 (.int .i64 0) Tryz.underlying195 (unhide HI).1 (unhide HI).2.1 rfl (unhide HI).2.2.1 (ao := ao) (cap := cap) (g := g) (n := t) (vs := intsV (stamps d.look first t)) rfl ?hvr (unhide HR2).2.2.2.2.1 _ [.int .i64 (M : Int)] 1 rfl rfl ?hsr ?hf1 ?hf2 ?next)
      case hvr => exact (unhide HR2).1.stay (fun hc => Below.heap_alloc _ _ _ ((unhide HR2).1.lt hc))
      case hsr =>
        have hnew := Bx.new w2 #[.int .i64 (M : Int)] 3
        refine Src.ofSlice _ Tryz.underlying195 ⟨w2.heap.size, 0, none⟩ 1 1 _ rfl (fun j u hj => ?_) (fun u hu => ?_)
        · rw [Addr.add_lit, Nat.zero_add, hnew.cell j, ← hj, List.getElem?_toArray]
        · simp at hu; subst hu; rfl
      case hf1 => rw [(unhide HI).2.2.2]; have := (unhide HR2).2.2.2.2.2; omega
      case hf2 => have := (unhide HR2).2.2.2.2.2; omega
      case next =>
        intro ao3 cap3 w3 g3 hv3 hG3
        have HG := hide (And.intro hv3 hG3)
        clear hv3 hG3
        go_wp2
        obtain ⟨hv3, hG3⟩ := unhide HG
        obtain ⟨hrow2, hbx2, hF2, hgw, hvl, _, _⟩ := unhide HR2
        have hsn : intsV (stamps d.look first (t + 1)) = intsV (stamps d.look first t) ++ [.int .i64 (M : Int)] := by
          have hh := stamps_snoc d.look first t
          rw [unhide HL, unhide HM] at hh
          rw [hh]; simp [intsV]
        have hFa : Fr (fun _ => False) w2 (w2.alloc (.cells #[.int .i64 (M : Int)] 3)) := (Fr.refl _ _).alloc _
        have hs2 := hF2.size
        have hs4 := hFa.size
        have hF3 : Fr (fun k => k = g ∧ 0 < cap) w2 w3 := by
          rcases hG3 with ⟨_, _, hf⟩ | ⟨_, _, hf⟩
          · exact (hFa.mono (fun _ _ t => t.elim)).trans hf (fun _ _ t => t)
          · exact (hFa.mono (fun _ _ t => t.elim)).trans hf (fun _ _ t => t.elim)
        have hlw : w.heap.size < w2.heap.size := hbx2.lt
        refine ⟨⟨t + 1, by omega, by go_num, ao3, cap3, g3, rfl, by rw [hsn]; exact hv3, hF2.trans hF3 (fun i hi t => by omega), hbx2.frame hF3 (by omega), ?_⟩, by simp [intOf]; omega⟩
        rcases hG3 with ⟨e, _, _⟩ | ⟨e, _, _⟩ <;> omega
    · obtain rfl : t = H := by omega
      have hcp : 0 < cap := by have := hrow.le; rw [intsV_length, stamps_length] at this; omega
      have hao := hrow.ad hcp
      subst hao
      have hlg := hrow.lt hcp
      have hHold : Sort.Holds (Value.int .i64) wr g 0 (stamps d.look first t).toArray := by
        intro j hj
        have hj' : j < (stamps d.look first t).length := by simpa using hj
        have hle := hrow.le
        rw [intsV_length] at hle
        rw [Nat.zero_add]
        refine ⟨?_, (hrow.room j (by omega)).2⟩
        rw [hrow.cells j (by rw [intsV_length]; exact hj')]
        simp [intsV, hj']
      have SC := Tryz.slices_Sort_int g 0 cap (stamps d.look first t) wr hHold hlg (by rw [stamps_length]; omega)
      rw [stamps_length] at SC
      have HS := hide (And.intro SC (And.intro hHold (And.intro hlg (And.intro hF (And.intro hgw hH)))))
      clear SC hHold hlg hF hgw hH hrow hbx h hD hup hfh h1H hok hcp
      go_wp2_with fail
      refine (unhide HS).1.mono ?_
      rintro e w2 ⟨rfl, n, os, rfl⟩
      obtain ⟨_, hHold, hlg, hF, hgw, hH⟩ := unhide HS
      have hgr := grownBy_sortedI (w := wr) (g := g) (n := n) (os := os) ((stamps d.look first t).mergeSort fun x y => decide (x ≤ y)).toArray
      have hF2 : Fr (fun k => k = g) wr _ := ⟨hgr.os, hgr.tape, hgr.output, hgr.size, fun k hk hne => hgr.block k hk (fun e => hne (by injection e))⟩
      have hperm := List.mergeSort_perm (stamps d.look first t) (fun x y => decide (x ≤ y))
      have hlen : ((stamps d.look first t).mergeSort fun x y => decide (x ≤ y)).length = t := by rw [hperm.length_eq, stamps_length]
      have hH2 := Sort.holds_grow (Value.int .i64) (Sort.putRow (Value.int .i64) (Sort.ahead wr n) g 0 ((stamps d.look first t).mergeSort fun x y => decide (x ≤ y)).toArray) os g 0 _ (by simpa using hlg) (Sort.holds_putRow (Value.int .i64) (Sort.ahead wr n) g 0 (stamps d.look first t).toArray _ hHold (by simp [hlen, stamps_length]))
      have hsort : ((stamps d.look first t).mergeSort fun x y => decide (x ≤ y)).Pairwise (· ≤ ·) := by
        have := List.pairwise_mergeSort (le := fun x y : Int => decide (x ≤ y)) (fun a b c h1 h2 => by simp at *; omega) (fun a b => by simp; omega) (stamps d.look first t)
        exact this.imp (fun h => by simpa using h)
      generalize (stamps d.look first t).mergeSort (fun x y => decide (x ≤ y)) = ss at *
      generalize Sort.grow (Sort.putRow (Value.int .i64) (Sort.ahead wr n) g 0 ss.toArray) os = w2 at *
      have hF02 : Fr (fun _ => False) w w2 := hF.trans hF2 (fun i hi t => by have t' : i = g := t; omega)
      have HQ := hide (And.intro hF02 (And.intro hperm (And.intro hlen (And.intro hH2 (And.intro hsort hH)))))
      clear hF2 hperm hlen hH2 hsort hF02 hgr hHold hlg hF hgw hH HS
      go_wp2
      go_loopw [10, 43] (fun ev iv wq => ∃ (i : Nat) (E : Nat), i ≤ t ∧ iv = .int .i64 i ∧ ev = .int .i64 E ∧ Hid (above < E ∧ E ≤ above + 1 + i ∧ Past ss i (E : Int)) ∧ w2 = wq) (fun _ iv _ => t - (intOf iv).toNat)
      case atStart => exact ⟨0, above + 1, Nat.zero_le _, rfl, by simp, ⟨by omega, by omega, Past.start _ _⟩, rfl⟩
      case round =>
        obtain ⟨i, E, hit, rfl, rfl, hP, rfl⟩ := hrel
        obtain ⟨hF02, hperm, hlen, hH2, hsort, hH⟩ := unhide HQ
        obtain ⟨p1, p2, p3⟩ := unhide hP
        by_cases hlt2 : i < t
        · have hiss : i < ss.length := by omega
          have hc := (hH2 i (by simpa using hiss)).1
          rw [Nat.zero_add] at hc
          have hss : ss.toArray[i]! = ss[i] := by simp [hiss]
          rw [hss] at hc
          have hii : (i : Int) < (t : Int) := by omega
          have hE : (E : Int) < 4611686018427912192 := by omega
          have hE0 : (0 : Int) ≤ (E : Int) := by omega
          have q3 := p3
          by_cases heq : ss[i] = (E : Int)
          · have hb1 : (ss[i] == (E : Int)) = true := by simpa using heq
            have hp := p3.same hsort hiss heq
            have HP := hide (And.intro hp (And.intro p1 p2))
            clear hp p1 p2 p3 q3 hF02 hperm hlen hH2 hsort heq hP hss
            generalize ss[i] = S at *
            go_wp2
            obtain ⟨hp, p1, p2⟩ := unhide HP
            exact ⟨⟨i + 1, E + 1, by omega, by go_num, by go_num, ⟨by omega, by omega, by exact_mod_cast hp⟩, trivial⟩, by simp [intOf]; omega⟩
          · have hb1 : (ss[i] == (E : Int)) = false := by simpa using heq
            have hp := p3.other hiss heq
            have HP := hide (And.intro hp (And.intro p1 p2))
            clear hp p1 p2 p3 q3 hF02 hperm hlen hH2 hsort heq hP hss
            generalize ss[i] = S at *
            go_wp2
            obtain ⟨hp, p1, p2⟩ := unhide HP
            exact ⟨⟨i + 1, E, by omega, by go_num, rfl, ⟨by omega, by omega, hp⟩, trivial⟩, by simp [intOf]; omega⟩
        · obtain rfl : i = t := by omega
          clear hF02 hperm hlen hH2 hsort hH p1 p2 p3
          go_wp2
          go_ret2
          obtain ⟨hF02, hperm, hlen, hH2, hsort, hH⟩ := unhide HQ
          obtain ⟨p1, p2, p3⟩ := unhide hP
          refine ⟨E, p1, p2, fun j hj he => ?_, rfl, hF02⟩
          have hmem : ((mrk (d.look (first + j)) : Nat) : Int) ∈ ss := hperm.mem_iff.2 (by simp only [stamps, List.mem_map, List.mem_range]; exact ⟨j, hj, rfl⟩)
          obtain ⟨k, hk, hkv⟩ := List.getElem_of_mem hmem
          exact p3.1 k hk (by omega) (by rw [hkv, he])

end Go.Proofs.YtjkghgcdkfkekaaGreatDoor

