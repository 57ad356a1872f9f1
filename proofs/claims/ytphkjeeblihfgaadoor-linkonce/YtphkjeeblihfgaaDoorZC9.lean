import Derived.Test.YtphkjeeblihfgaaDoorZC8
/- LinkOnce: an item is taken; an acknowledgement. -/
namespace Go.Proofs.YtphkjeeblihfgaaDoor
open Go.RowKit Go.Maps

def block4 (b : Code) : Code := cA (cB (cI (cI (cB (cA (cB (cB (cT (cB (cE (cB (swO b))))))))))))

set_option maxHeartbeats 40000000 in
set_option maxRecDepth 20000 in
theorem once_take (w wr w5 wA : World) (p m i k l' : Nat) (x : OV) (d : List (List UInt8)) (M : Int) (ro : Option Addr) (rc : Nat) (tk' : List Bool) (hkd : k < d.length) (hdI : (d.length : Int) ≤ 8) (HKL : Hid (({ x with n := M + (k : Int), l := l', tk := tk' } : OV).Ok w p m (i + 1) wr ∧ tk'.length = x.tk.length ∧ Fr (fun k => k < wA.heap.size) w5 wr)) (HIT : Hid (∀ u, Fr (fun k => k < wA.heap.size) w5 u → ItsAt u ro (numI M d)))
    (HG : Hid (1 ≤ M ∧ (∀ (j : Nat) (hj : j < d.length), M + j ≤ (x.its.length : Int) ∧ x.its[(M + j - 1).toNat]? = some d[j]) ∧ M ≤ (x.its.length : Int) + 1 ∧ x.its.length ≤ 300)) (HOK : Hid (x.Ok w p m (i + 1) wA))
    {K : Act → World → Prop} {Q' : Exit → Act → World → Prop} {df : List Deferred} {s0 s1 s2 s3 s4 s5 s6 s7 s8 s9 s10 s11 s14 s15 s19 s20 s21 s24 s25 s26 s27 s28 s29 s30 s31 s32 s33 s34 s35 s36 s37 s38 s39 s40 s41 s42 s43 s44 s45 s46 s47 s48 s49 s50 s51 s52 s53 s54 s55 s56 s57 s58 s59 s60 s61 s62 s63 s64 s65 s66 s67 s68 s69 s70 s71 s72 s73 s74 s75 s76 s77 s78 s79 s80 s81 s82 s83 s84 s85 s86 s87 s88 s89 s90 s91 s92 s93 s94 s95 s96 s97 s98 s99 s100 s101 s102 s103 s104 s105 s106 s107 s108 s109 s110 s111 s112 s113 s114 s115 s116 s117 s118 s119 s120 s121 s122 s123 s124 s125 s126 s127 s128 s129 s130 s131 s132 s133 s134 s135 s136 s137 s138 s139 s140 s141 s142 s143 s144 s145 s146 s147 s148 s149 s150 s151 s152 s153 s154 s155 s156 s157 s158 s159 s160 s161 s162 s163 s164 s165 s166 s167 s168 s169 s170 s171 s172 s173 s174 s175 s176 s177 s178 s179 s180 s181 s182 s183 s184 s185 s186 s187 s188 s189 s190 s191 s192 s193 s194 s195 s196 s197 s198 s199 s200 s201 s202 s203 s204 s205 s206 s207 s208 s209 s210 s211 s212 s213 s214 s215 s216 s217 s218 s219 s220 s221 s222 s223 s224 : Value}
    (hK : ∀ (l2 : Nat) (tk2 : List Bool) (wE : World) (u8 u24 u106 u107 u108 u109 u110 u111 u112 u113 u114 u115 u116 u117 u118 u119 u120 u121 u122 u123 u124 u125 u126 u127 u128 u129 u130 u131 u132 u133 u134 u135 u136 u137 u138 u139 u140 u141 u142 u143 u144 u145 u146 u147 u148 u149 u150 u151 u152 u153 u154 u155 u156 u157 u158 u159 u160 u161 u162 : Value), Hid (({ x with n := M + ((k + 1 : Nat) : Int), l := l2, tk := tk2 } : OV).Ok w p m (i + 1) wE ∧ tk2.length = x.tk.length ∧ Fr (fun k => k < wA.heap.size) w5 wE) → K ⟨[s0, s1, s2, s3, s4, s5, s6, s7, u8, s9, s10, s11, .pointer (some ⟨x.q, 0, none⟩), .slice x.io x.its.length x.ic, s14, s15, .slice x.tko x.tk.length x.tc, .int .i64 (x.g : Int), .int .i64 (l2 : Int), s19, s20, s21, .slice ro d.length rc, .int .i64 (k : Int), u24, s25, s26, s27, s28, s29, s30, s31, s32, s33, s34, s35, s36, s37, s38, s39, s40, s41, s42, s43, s44, s45, s46, s47, s48, s49, s50, s51, s52, s53, s54, s55, s56, s57, s58, s59, s60, s61, s62, s63, s64, s65, s66, s67, s68, s69, s70, s71, s72, s73, s74, s75, s76, s77, s78, s79, s80, s81, s82, s83, s84, s85, s86, s87, s88, s89, s90, s91, s92, s93, s94, s95, s96, s97, s98, s99, s100, s101, s102, s103, s104, s105, u106, u107, u108, u109, u110, u111, u112, u113, u114, u115, u116, u117, u118, u119, u120, u121, u122, u123, u124, u125, u126, u127, u128, u129, u130, u131, u132, u133, u134, u135, u136, u137, u138, u139, u140, u141, u142, u143, u144, u145, u146, u147, u148, u149, u150, u151, u152, u153, u154, u155, u156, u157, u158, u159, u160, u161, u162, s163, s164, s165, s166, s167, s168, s169, s170, s171, s172, s173, s174, s175, s176, s177, s178, s179, s180, s181, s182, s183, s184, s185, s186, s187, s188, s189, s190, s191, s192, s193, s194, s195, s196, s197, s198, s199, s200, s201, s202, s203, s204, s205, s206, s207, s208, s209, s210, s211, s212, s213, s214, s215, s216, s217, s218, s219, s220, s221, s222, s223, s224].toArray, df⟩ wE) :
    (block4 ((Tryd.f6.body).getD .skip)).wp Tryd.prog (Exit.then K Q') ⟨[s0, s1, s2, s3, s4, s5, s6, s7, s8, s9, s10, s11, .pointer (some ⟨x.q, 0, none⟩), .slice x.io x.its.length x.ic, s14, s15, .slice x.tko x.tk.length x.tc, .int .i64 (x.g : Int), .int .i64 (l' : Int), s19, s20, s21, .slice ro d.length rc, .int .i64 (k : Int), s24, s25, s26, s27, s28, s29, s30, s31, s32, s33, s34, s35, s36, s37, s38, s39, s40, s41, s42, s43, s44, s45, s46, s47, s48, s49, s50, s51, s52, s53, s54, s55, s56, s57, s58, s59, s60, s61, s62, s63, s64, s65, s66, s67, s68, s69, s70, s71, s72, s73, s74, s75, s76, s77, s78, s79, s80, s81, s82, s83, s84, s85, s86, s87, s88, s89, s90, s91, s92, s93, s94, s95, s96, s97, s98, s99, s100, s101, s102, s103, s104, s105, s106, s107, s108, s109, s110, s111, s112, s113, s114, s115, s116, s117, s118, s119, s120, s121, s122, s123, s124, s125, s126, s127, s128, s129, s130, s131, s132, s133, s134, s135, s136, s137, s138, s139, s140, s141, s142, s143, s144, s145, s146, s147, s148, s149, s150, s151, s152, s153, s154, s155, s156, s157, s158, s159, s160, s161, s162, s163, s164, s165, s166, s167, s168, s169, s170, s171, s172, s173, s174, s175, s176, s177, s178, s179, s180, s181, s182, s183, s184, s185, s186, s187, s188, s189, s190, s191, s192, s193, s194, s195, s196, s197, s198, s199, s200, s201, s202, s203, s204, s205, s206, s207, s208, s209, s210, s211, s212, s213, s214, s215, s216, s217, s218, s219, s220, s221, s222, s223, s224].toArray, df⟩ wr := by
  have HKK := hide hK
  clear hK
  dsimp only [block4, swO, cA, cB, cI, cT, cE, Tryd.f6, Option.getD]
  go_cut [13, 16, 18] from 106 to 162 (fun v13 v16 v18 wE => ∃ (l2 : Nat) (tk2 : List Bool), v13 = .slice x.io x.its.length x.ic ∧ v18 = .int .i64 (l2 : Int) ∧ v16 = .slice x.tko x.tk.length x.tc ∧ Hid (({ x with n := M + ((k + 1 : Nat) : Int), l := l2, tk := tk2 } : OV).Ok w p m (i + 1) wE ∧ tk2.length = x.tk.length ∧ Fr (fun k => k < wA.heap.size) w5 wE))
  case rest =>
    obtain ⟨l2, tk2, rfl, rfl, rfl, HE⟩ := hcut
    exact unhide HKK l2 tk2 _ _ _ _ _ _ _ _ _ _ _ _ _ _ _ _ _ _ _ _ _ _ _ _ _ _ _ _ _ _ _ _ _ _ _ _ _ _ _ _ _ _ _ _ _ _ _ _ _ _ _ _ _ _ _ _ _ _ _ _ HE
  case first =>
    clear HKK
    obtain ⟨hy, htl, hfr⟩ := unhide HKL
    obtain ⟨bb, off, e, hcc⟩ := (unhide HIT wr hfr).cells (by rw [numI_length]; omega)
    obtain ⟨e1, ao, cap, e2, e3⟩ := hcc k (by rw [numI_length]; exact hkd)
    rw [numI_get M d k hkd] at e1 e2 e3
    simp only at e1 e2 e3
    obtain ⟨g3, g5, hMn, hfew⟩ := unhide HG
    obtain ⟨g51, g52⟩ := g5 k hkd
    obtain ⟨QN, hQN⟩ : ∃ QN : Nat, M + (k : Int) = (QN : Int) + 1 := ⟨(M + (k : Int) - 1).toNat, by omega⟩
    have hq0 : (M + (k : Int) - 1).toNat = QN := by omega
    rw [hq0] at g52
    have hq : QN < x.its.length := by omega
    obtain ⟨hio, i0, ao2, cap2, i1, i2⟩ := hy.os.itemAt hq
    have hsame : x.its[QN] = d[k] := by
      rw [List.getElem?_eq_getElem hq] at g52
      injection g52
    simp only at hio i0 i1 i2
    rw [hsame] at i1 i2
    rw [hQN] at e1
    have HIO := hide hio
    have hls := hy.li.ls
    have hlgg := hy.li.lg
    simp only at hls hlgg
    rw [hQN] at hls hlgg
    generalize d[k] = D at *
    subst e
    have hkI2 : (k : Int) < (d.length : Int) := by omega
    have hQI : (QN : Int) < (x.its.length : Int) := by omega
    have hQ3 : (QN : Int) < 300 := by omega
    have hl3 : (l' : Int) ≤ 300 := by omega
    have hiL : (x.its.length : Int) ≤ 300 := by omega
    have hgL : (x.g : Int) ≤ 300 := by have : x.g ≤ x.its.length := hy.li.gn.1; omega
    obtain ⟨S, hS⟩ : ∃ S : Int, S = (QN : Int) + 1 := ⟨_, rfl⟩
    rw [← hS] at e1
    have hwr : IntKind.i64.wrap (S - 1) = (QN : Int) := by rw [IntKind.wrap_i64]; omega
    have HSQ := hide hS
    have hQ0 : (0 : Int) ≤ (QN : Int) := by omega
    have hsl : decide ((QN : Int) < (x.its.length : Int)) = true := by simp; omega
    have hsl2 : decide (QN < x.its.length) = true := by simp; omega
    have hq1 : decide (S ≤ (l' : Int)) = false := by simp; omega
    have hq2 : decide (S > (x.its.length : Int)) = false := by simp; omega
    have hq3 : decide ((x.its.length : Int) < S) = false := by simp; omega
    have hcase : (decide ((l' : Int) > 0) = false ∧ decide (0 < (l' : Int)) = false ∧ decide (0 < l') = false) ∨ (decide ((l' : Int) > 0) = true ∧ decide (0 < (l' : Int)) = true ∧ decide (0 < l') = true ∧ decide (S > (l' : Int) + 1) = false ∧ decide ((l' : Int) + 1 < S) = false ∧ True ∧ True) ∨ (decide ((l' : Int) > 0) = true ∧ decide (0 < (l' : Int)) = true ∧ decide (0 < l') = true ∧ decide (S > (l' : Int) + 1) = true ∧ decide ((l' : Int) + 1 < S) = true ∧ True ∧ True ∧ decide ((QN : Int) > (x.g : Int)) = false ∧ True ∧ decide ((x.g : Int) < (QN : Int)) = false ∧ decide (x.g < QN) = false) := by
      rcases Nat.eq_zero_or_pos l' with t | t
      · exact .inl ⟨by simp; omega, by simp; omega, by simp; omega⟩
      · rcases hlgg t with t2 | t2
        · exact .inr (.inl ⟨by simp; omega, by simp; omega, by simp; omega, by simp; omega, by simp; omega, trivial, trivial⟩)
        · by_cases t3 : QN = l'
          · exact .inr (.inl ⟨by simp; omega, by simp; omega, by simp; omega, by simp; omega, by simp; omega, trivial, trivial⟩)
          · exact .inr (.inr ⟨by simp; omega, by simp; omega, by simp; omega, by simp; omega, by simp; omega, trivial, trivial, by simp; omega, trivial, by simp; omega, by simp; omega⟩)
    have HB0 := hide (Bx.new wr #[.int .i64 (S), .slice ao D.length cap] 47)
    have HFA : Hid (Fr (fun _ => False) wr (wr.alloc (.cells #[.int .i64 (S), .slice ao D.length cap] 47))) := hide ((Fr.refl _ _).alloc _)
    have HS : Hid (∀ u, Fr (fun _ => False) (wr.alloc (.cells #[.int .i64 (S), .slice ao D.length cap] 47)) u → u.cell? ⟨wr.heap.size, 0, none⟩ = some (.int .i64 (S)) ∧ u.cell? ⟨wr.heap.size, 1, none⟩ = some (.slice ao D.length cap) ∧ u.cell? ⟨x.ib, QN * 2 + 1, none⟩ = some (.slice ao2 D.length cap2) ∧ (convert 34 9 (.slice ao D.length cap)).run Tryd.prog u = .ok (.string ⟨D.toArray⟩) u ∧ (convert 34 9 (.slice ao2 D.length cap2)).run Tryd.prog u = .ok (.string ⟨D.toArray⟩) u) := hide (fun u hu => by
      have hf := (unhide HFA).trans hu (fun _ _ t => t)
      exact ⟨((unhide HB0).keep hu).cell 0, ((unhide HB0).keep hu).cell 1, (hf.cell (World.block_lt_of_cell? _ _ i1) (fun t => t)).trans i1, conv_batL (e3.later hf), conv_batL (i2.later hf)⟩)
    have HQ : Hid (M + (k : Int) = (QN : Int) + 1 ∧ QN < x.its.length) := hide ⟨hQN, hq⟩
    clear hcc e3 i0 i1 i2 hQN hq0 g52 hq hsame hls hlgg hy htl hfr g3 g5 hMn hfew g51 HB0 hS
    go_upto_region 27 with (fail)
    rw [hio]
    generalize wr.alloc (.cells #[.int .i64 (S), .slice ao D.length cap] 47) = wB at *
    have HZT : Hid (x.tb < wr.heap.size ∧ True ∧ x.tb < wA.heap.size ∧ x.q < wA.heap.size) := by
      have h1 := (unhide HOK).os
      have h2 := h1.tr.le
      have h3 := (unhide HOK).li.tkl
      rw [List.length_map] at h2
      have h4 := h1.tr.lt (by omega) (by omega)
      have h5 := (unhide HKL).1.os.tr
      have h6 := h5.le
      have h7 := (unhide HKL).1.li.tkl
      simp only at h5 h6 h7
      rw [List.length_map] at h6
      exact hide ⟨h5.lt (by omega) (by omega), trivial, h4, (h1.below (by rw [h1.rq]; omega)).2⟩
    clear e1 e2
    generalize wr.heap.size = Zx at *
    have hcase2 : (decide ((l' : Int) > 0) = false ∧ decide (0 < (l' : Int)) = false ∧ decide (0 < l') = false) ∨ (decide ((l' : Int) > 0) = true ∧ decide (0 < (l' : Int)) = true ∧ decide (0 < l') = true ∧ decide (S > (l' : Int) + 1) = false ∧ decide ((l' : Int) + 1 < S) = false) ∨ (decide ((l' : Int) > 0) = true ∧ decide (0 < (l' : Int)) = true ∧ decide (0 < l') = true ∧ decide (S > (l' : Int) + 1) = true ∧ decide ((l' : Int) + 1 < S) = true ∧ decide ((QN : Int) > (x.g : Int)) = false ∧ decide ((x.g : Int) < (QN : Int)) = false ∧ decide (x.g < QN) = false) := by
      rcases hcase with ⟨m1, m2, m3⟩ | ⟨m1, m2, m3, m4, m5, m6, m7⟩ | ⟨m1, m2, m3, m4, m5, m6, m7, m8, m9, m10, m11⟩
      · exact .inl ⟨m1, m2, m3⟩
      · exact .inr (.inl ⟨m1, m2, m3, m4, m5⟩)
      · exact .inr (.inr ⟨m1, m2, m3, m4, m5, m8, m10, m11⟩)
    refine once_r27 wB Zx x.ib QN x.its.length x.ic x.g l' S ao ao2 cap cap2 D HS hwr hQ0 hQI hq1 hq2 hl3 hcase2 ?_
    intro nq u110 u111 u112 u113 u114 u115 u116 u117 u118 u119 u120 u121 u122 u123 u124 u125 u126 u127 u128 u129 u130 u131 u132 u133 u134 u135 u136 u137 u138 u139 u140 u141 u142 u143 u144 u145 u146 u147 u148 u149 u150 u151
    have HB2 : Hid (({ x with n := M + (k : Int), l := l', tk := tk' } : OV).Os w p m (wB.drewN nq)) := hide (((unhide HKL).1.os.keep (unhide HFA)).keep ((Fr.refl _ _).drewN nq))
    have HFW : Hid (Fr (fun k => k < wA.heap.size) w5 (wB.drewN nq)) := hide (((unhide HKL).2.2.trans (unhide HFA) (fun _ _ t => t.elim)).drewN nq)
    have u1 := (unhide HS (wB.drewN nq) ((Fr.refl _ _).drewN nq)).1
    clear HS hcase hcase2
    generalize wB.drewN nq = W at *
    have hS := unhide HSQ
    subst hS
    have htr := (unhide HB2).tr
    simp only at htr
    have htl2 : QN + 1 < tk'.length := by
      have h1 := (unhide HKL).1.li.tkl
      have h2 := (unhide HQ).2
      simp only at h1
      omega
    have htl3 : tk'.length = x.tk.length := (unhide HKL).2.1
    have hle := htr.le
    rw [List.length_map] at hle
    have hto : x.tko = some ⟨x.tb, 0, none⟩ := htr.ad (by omega)
    have HTO := hide hto
    have t1 : W.cell? ⟨x.tb, QN + 1, none⟩ = some (.bool (tk'[QN + 1])) := by
      rw [htr.cells (QN + 1) (by rw [List.length_map]; exact htl2), List.getElem_map]
    have t2 : W.frozen? ⟨x.tb, QN + 1, none⟩ = false := (htr.room (QN + 1) (by omega)).2
    have hZt : Zx ≠ x.tb := by have := unhide HZT; omega
    have HMK := hide ((unhide HB2).mark htl2)
    have hsetF : Fr (fun k => k = x.tb) W (W.setCell ⟨x.tb, QN + 1, none⟩ (.bool true)) := Fr.setCell (S := fun k => k = x.tb) (Fr.refl _ _) (p := ⟨x.tb, QN + 1, none⟩) (fun _ => rfl) _
    have u2 : (W.setCell ⟨x.tb, QN + 1, none⟩ (.bool true)).cell? ⟨Zx, 0, none⟩ = some (.int .i64 ((QN : Int) + 1)) := (hsetF.cell (a := ⟨Zx, 0, none⟩) (World.block_lt_of_cell? _ _ u1) hZt).trans u1
    have HFW2 := hide ((unhide HFW).trans hsetF (fun i _ t => by have t : i = x.tb := t; subst t; exact (unhide HZT).2.2.1))
    have htlI : (QN : Int) + 1 < (x.tk.length : Int) := by omega
    clear htr hle hsetF hZt
    go_upto_region 30 with (fail)
    clear u1 t1 t2 hto hio
    rw [← unhide HIO]
    generalize W.setCell ⟨x.tb, QN + 1, none⟩ (.bool true) = W2 at *
    go_wp2_with fail
    refine (take_any (unhide HMK).rv ((QN : Int) + 1)).mono ?_
    rintro e w8 ⟨rfl, r1, r2, r3⟩
    have HE : Hid (({ x with n := M + ((k + 1 : Nat) : Int), l := QN + 1, tk := tk'.set (QN + 1) true } : OV).Ok w p m (i + 1) w8 ∧ (tk'.set (QN + 1) true).length = x.tk.length ∧ Fr (fun k => k < wA.heap.size) w5 w8) := by
      obtain ⟨hy, htl, hfr⟩ := unhide HKL
      obtain ⟨a1, a2⟩ := unhide HQ
      have hn2 : takeF (M + (k : Int)) ((QN : Int) + 1) = M + ((k + 1 : Nat) : Int) := by
        have := hy.li.few
        simp only at this
        unfold takeF
        rw [if_pos (by omega)]
        omega
      have r1' : RV w8 x.q (M + ((k + 1 : Nat) : Int)) := by rw [← hn2]; exact r1
      have hos := (unhide HMK).recv r2 r1'
      have hli := hy.li.take (by show 1 ≤ M + (k : Int); omega) (by show M + (k : Int) ≤ (x.its.length : Int); omega)
      have e1 : (M + (k : Int)).toNat = QN + 1 := by omega
      have e2 : M + (k : Int) + 1 = M + ((k + 1 : Nat) : Int) := by omega
      simp only at hli
      rw [e1, e2] at hli
      exact hide ⟨⟨hos, hli, hy.b1, hy.b2, hy.b3, hy.b4, hy.b5, hy.sb⟩, by rw [List.length_set]; exact htl, (unhide HFW2).trans r2 (fun i _ t => by have t : i = x.q := t; subst t; exact (unhide HZT).2.2.2)⟩
    clear r1 r2 r3 u2 HMK HFW2 HB2 HFW
    go_wp2
    go_meet
    exact ⟨QN + 1, tk'.set (QN + 1) true, rfl, by go_num, by first | rfl | (rw [unhide HTO]), HE⟩

end Go.Proofs.YtphkjeeblihfgaaDoor

