/- An amount in parts is the amount; what is answered is its owner's (the walk of MoneyParts). -/
import Derived.Test.YtighehbeeflhpaaDoorS6
import Derived.Test.YtighehbeeflhpaaDoorR9
import Derived.BigQuiet
import Derived.Deep.QuietTactic
namespace Go.Proofs.YtighehbeeflhpaaDoor
open Go.RowKit

/-- Three rows of the same ints, each in a block of its own. -/
structure Three (w0 W : World) (L : List Int) (a1 : Option Addr) (c1 g1 : Nat) (a2 : Option Addr) (c2 g2 : Nat) (a3 : Option Addr) (c3 g3 : Nat) : Prop where
  r1 : VRow W a1 c1 g1 (intsV L)
  r2 : VRow W a2 c2 g2 (intsV L)
  r3 : VRow W a3 c3 g3 (intsV L)
  n1 : 0 < c1 → w0.heap.size ≤ g1
  n12 : 0 < c1 → 0 < c2 → g2 ≠ g1
  n13 : 0 < c1 → 0 < c3 → g3 ≠ g1
  fr : Fr (fun _ => False) w0 W

theorem VRow.frame {S : Nat → Prop} {w w' : World} {ao : Option Addr} {cap g : Nat} {vs : List Value} (h : VRow w ao cap g vs) (hf : Fr S w w') (hg : 0 < cap → ¬ S g) : VRow w' ao cap g vs :=
  h.stay fun hc => hf.block g (h.lt hc) (hg hc)

set_option maxRecDepth 100000 in
set_option maxHeartbeats 2000000 in
theorem parts_walk (w : World) (hT : Pow w) (n p : Int) :
    Calls Tryd.prog 7 #[.int .i64 n, .int .i64 p] w fun e w' => e = .returned (.bool true) ∧ Fr (fun _ => False) w w' := by
  have R0 := awake_any w hT
  have R1 := fun w => split_any w n p
  have R3 := fun w => rsplit_any w n p
  have HP := hide (split_facts n p)
  unfold SplitAns at R1
  unfold RSplitAns at R3
  generalize splitL n p = L at *
  generalize splitE n p = E at *
  have hlen : L.length ≤ 1000 := (unhide HP).len
  obtain ⟨len, HLn⟩ : ∃ len, Hid (L.length = len) := ⟨_, rfl⟩
  rw [unhide HLn] at R1 R3 hlen
  clear hT
  go_enter Tryd.func7, Tryd.ntmps7
  go_wp2_with fail
  refine R0.mono ?_
  rintro e w1 ⟨rfl, hF1⟩
  have HF1 := hide hF1
  clear R0 hF1
  go_wp2_with fail
  refine (R1 w1).mono ?_
  rintro e w2 ⟨a1, c1, g1, rfl, v1, hg1, hF2⟩
  have H2 := hide (And.intro v1 (And.intro hg1 ((unhide HF1).trans hF2 (fun _ _ t => t))))
  clear v1 hg1 hF2
  go_wp2_with fail
  refine (R1 w2).mono ?_
  rintro e w3 ⟨a2, c2, g2, rfl, v2, hg2, hF3⟩
  have H3 := hide (And.intro v2 (And.intro hg2 hF3))
  clear v2 hg2 hF3 R1
  go_wp2_with fail
  refine (R3 w3).mono ?_
  rintro e W ⟨a3, c3, g3, rfl, v3, hF4, hg3⟩
  have HW : Hid (Three w W L a1 c1 g1 a2 c2 g2 a3 c3 g3) := by
    have f23 := (unhide H3).2.2
    have f24 := f23.trans hF4 (fun _ _ t => t)
    refine ⟨(unhide H2).1.frame f24 (fun _ t => t), (unhide H3).1.frame hF4 (fun _ t => t), v3, fun _ => ?_, fun hc _ => ?_, fun hc hc3 => ?_, (unhide H2).2.2.trans f24 (fun _ _ t => t)⟩
    · have := (unhide HF1).size; have := (unhide H2).2.1; omega
    · have := (unhide H2).1.lt hc; have := (unhide H3).2.1; omega
    · have := (unhide H2).1.lt hc; have := hg3 hc3; have := f23.size; omega
  clear v3 hF4 hg3 H2 H3 R3 HF1
  go_wp2
  go_loopw [12, 13] (fun sv iv wr => ∃ (i : Nat) (S : Int), i ≤ len ∧ iv = .int .i64 i ∧ sv = .int .i64 S ∧ Hid (S = sumTo L i ∧ Fr (fun _ => False) W wr)) (fun _ iv _ => len - (intOf iv).toNat)
  case atStart => exact ⟨0, 0, Nat.zero_le _, rfl, rfl, rfl, Fr.refl _ _⟩
  case round =>
    obtain ⟨i, S, hi, rfl, rfl, HI⟩ := hrel
    by_cases hlt : i < len
    · have hlt' : i < L.length := by rw [unhide HLn]; exact hlt
      have hle := fun {a c g} (v : VRow W a c g (intsV L)) => (show L.length ≤ c by have := v.le; rw [intsV_length] at this; exact this)
      have hc1 : 0 < c1 := by have := hle (unhide HW).r1; omega
      have hc3 : 0 < c3 := by have := hle (unhide HW).r3; omega
      have cell : ∀ {a c g} (v : VRow W a c g (intsV L)) (j : Nat) (hj : j < L.length), wr.cell? ⟨g, j, none⟩ = some (.int .i64 L[j]) := fun {a c g} v j hj => by
        have h1 := (v.frame (unhide HI).2 (fun _ t => t)).cells j (by rw [intsV_length]; exact hj)
        rw [h1]; simp [intsV]
      have k1 := cell (unhide HW).r1 i hlt'
      have k3 := cell (unhide HW).r3 i hlt'
      have k0 := cell (unhide HW).r1 0 (by omega)
      have hs := (unhide HP).size i hlt'
      have hn := (unhide HP).near i hlt'
      have hs0 := (unhide HP).size 0 (by omega)
      have hsm := (unhide HP).some i (by omega)
      have HSS := hide (sumTo_succ L i hlt')
      have hS : 0 ≤ S ∧ S ≤ 9007199254740992 := by rw [(unhide HI).1]; exact hsm
      obtain rfl := (unhide HW).r1.ad hc1
      obtain rfl := (unhide HW).r3.ad hc3
      by_cases h0 : 0 < i
      · have kp := cell (unhide HW).r1 (i - 1) (by omega)
        have hdn : L[i] ≤ L[i - 1] := by
          have := (unhide HP).down (i - 1) (by omega)
          simpa [show i - 1 + 1 = i by omega] using this
        have z1 : (0 : Int) < (i : Int) := by omega
        have z2 : (i : Int) < (len : Int) := by omega
        obtain ⟨j, z3, z6⟩ : ∃ j : Nat, (i : Int) - 1 = (j : Int) ∧ i - 1 = j := ⟨i - 1, by omega, rfl⟩
        have z4 : (j : Int) < (len : Int) := by omega
        have z5 : (0 : Int) < (len : Int) := by omega
        clear cell hle hsm
        generalize L[i] = x at *
        generalize L[i - 1] = y at *
        rw [z6] at kp
        have z7 : IntKind.i64.wrap (j : Int) = (j : Int) := by rw [IntKind.wrap_i64]; omega
        clear z6
        generalize L[0] = z at *
        have z8 : IntKind.i64.wrap (z - 1) = z - 1 := by rw [IntKind.wrap_i64]; omega
        have z9 : 0 < len := by omega
        go_wp2
        go_quiet (fail)
        go_wp2
        exact ⟨⟨i + 1, S + x, by omega, by go_num, rfl, by rw [unhide HSS, (unhide HI).1], (unhide HI).2.drewN _⟩, by simp [intOf]; omega⟩
      · obtain rfl : i = 0 := by omega
        clear cell hle hsm hn k0 hs0
        generalize L[0] = x at *
        go_wp2
        go_quiet (fail)
        go_wp2
        exact ⟨⟨1, S + x, by omega, by go_num, rfl, by rw [unhide HSS, (unhide HI).1], (unhide HI).2.drewN _⟩, by simp [intOf]; omega⟩
    · obtain rfl : len = i := by omega
      go_wp2
      go_loopw [14] (fun iv wr => ∃ i : Nat, i ≤ len ∧ iv = .int .i64 i ∧ Hid (Fr (fun k => k = g1 ∧ 0 < c1) W wr ∧ ∃ vs : List Value, vs.length = len ∧ VRow wr a1 c1 g1 vs)) (fun iv _ => len - (intOf iv).toNat)
      case atStart => exact ⟨0, Nat.zero_le _, rfl, (unhide HI).2.mono (fun _ _ t => t.elim), intsV L, by rw [intsV_length]; exact unhide HLn, (unhide HW).r1.frame (unhide HI).2 (fun _ t => t)⟩
      case round =>
        obtain ⟨i, hi2, rfl, HJ⟩ := hrel
        by_cases hlt2 : i < len
        · obtain ⟨hfj, vs, hvl, hv⟩ := unhide HJ
          have hc1 : 0 < c1 := by have := hv.le; omega
          obtain rfl := hv.ad hc1
          have ci := hv.cells i (by omega)
          have fi := (hv.room i (by have := hv.le; omega)).2
          have HN : Hid (∀ u : Value, u.oneCell' = true → Fr (fun k => k = g1 ∧ 0 < c1) W (wr.setCell ⟨g1, i, none⟩ u) ∧ ∃ vs : List Value, vs.length = len ∧ VRow (wr.setCell ⟨g1, i, none⟩ u) (some ⟨g1, 0, none⟩) c1 g1 vs) := fun u hu =>
            ⟨hfj.setCell (p := ⟨g1, i, none⟩) (fun _ => ⟨rfl, hc1⟩) _, vs.set i u, by simpa using hvl, hv.set i (by omega) u hu⟩
          generalize vs[i]'(by omega) = ov at ci
          clear hfj hvl hv
          go_wp2
          exact ⟨⟨i + 1, by omega, by go_num, unhide HN _ rfl⟩, by simp [intOf]; omega⟩
        · obtain rfl : len = i := by omega
          obtain ⟨i0, hi0, hz0, hz1, hz2⟩ := info3z
          have HO := hide hi0
          clear hi0
          obtain ⟨hfj, vs, hvl, hv⟩ := unhide HJ
          have HV := hide (And.intro hfj (And.intro hvl hv))
          clear hfj hvl hv HJ
          go_wp2_with (at_builtin; refine wpList_append_vrow _ rfl (.tmp 118) (.tmp 119) 22 22 rfl 3 i0 (.int .i64 0) Tryd.underlying22 (unhide HO) hz0 rfl hz1 (ao := a1) (cap := c1) (g := g1) (n := len) (vs := vs) rfl ((unhide HV).2.2.stay (fun hc => Below.heap_alloc _ _ _ ((unhide HV).2.2.lt hc))) (unhide HV).2.1 _ [.int .i64 (-8)] 1 rfl rfl (src_int wr _) (by rw [hz2]; omega) (by omega) ?_)
          intro ao' cap' w5 g' hrow hgr
          have HF5 : Hid (Fr (fun k => k = g1 ∧ 0 < c1) W w5) := by
            have h0 := (unhide HV).1.alloc (.cells #[.int .i64 (-8)] 3)
            rcases hgr with ⟨_, _, hF⟩ | ⟨_, _, hF⟩
            · exact h0.trans hF (fun _ _ t => t)
            · exact h0.trans hF (fun _ _ t => t.elim)
          clear hrow hgr HV
          go_wp2
          go_loopw [15] (fun iv wr => ∃ i : Nat, i ≤ len ∧ iv = .int .i64 i ∧ Hid (Fr (fun k => k = g1 ∧ 0 < c1) W wr)) (fun iv _ => len - (intOf iv).toNat)
          case atStart => exact ⟨0, Nat.zero_le _, rfl, unhide HF5⟩
          case round =>
            obtain ⟨i, hi3, rfl, HK⟩ := hrel
            by_cases hlt3 : i < len
            · have hlt' : i < L.length := by rw [unhide HLn]; exact hlt3
              have hle := fun {a c g} (v : VRow W a c g (intsV L)) => (show L.length ≤ c by have := v.le; rw [intsV_length] at this; exact this)
              have hc1 : 0 < c1 := by have := hle (unhide HW).r1; omega
              have hc2 : 0 < c2 := by have := hle (unhide HW).r2; omega
              have hc3 : 0 < c3 := by have := hle (unhide HW).r3; omega
              have k2 : wr.cell? ⟨g2, i, none⟩ = some (.int .i64 L[i]) := by
                have h1 := ((unhide HW).r2.frame (unhide HK) (fun _ t => (unhide HW).n12 hc1 hc2 t.1)).cells i (by rw [intsV_length]; exact hlt')
                rw [h1]; simp [intsV]
              have k3 : wr.cell? ⟨g3, i, none⟩ = some (.int .i64 L[i]) := by
                have h1 := ((unhide HW).r3.frame (unhide HK) (fun _ t => (unhide HW).n13 hc1 hc3 t.1)).cells i (by rw [intsV_length]; exact hlt')
                rw [h1]; simp [intsV]
              obtain rfl := (unhide HW).r2.ad hc2
              obtain rfl := (unhide HW).r3.ad hc3
              have z2 : (i : Int) < (len : Int) := by omega
              clear hle
              generalize L[i] = x at *
              go_wp2
              go_quiet (fail)
              go_wp2
              exact ⟨⟨i + 1, by omega, by go_num, (unhide HK).drewN _⟩, by simp [intOf]; omega⟩
            · obtain rfl : len = i := by omega
              have HD : Hid (Fr (fun _ => False) w wr) := (unhide HW).fr.trans (unhide HK) (fun i hi t => by have := (unhide HW).n1 t.2; omega)
              by_cases hE : E = 0
              · have hS : S = n := by
                  rw [(unhide HI).1, ← unhide HLn]
                  exact (unhide HP).all hE
                subst hE
                subst hS
                go_wp2
                go_ret
                exact ⟨rfl, unhide HD⟩
              · have hE' : (E != 0) = true := by simpa using hE
                go_wp2
                go_ret
                exact ⟨rfl, unhide HD⟩

end Go.Proofs.YtighehbeeflhpaaDoor
