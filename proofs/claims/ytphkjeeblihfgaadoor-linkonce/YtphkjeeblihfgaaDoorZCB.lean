import Derived.Test.YtphkjeeblihfgaaDoorZC9
/- LinkOnce: a step, whichever it is. -/
namespace Go.Proofs.YtphkjeeblihfgaaDoor
open Go.RowKit Go.Maps

def block2 (b : Code) : Code := cB (cA (cB (cB (cM b))))

set_option maxHeartbeats 40000000 in
set_option maxRecDepth 20000 in
theorem once_switch (w wr wA : World) (p m i Z N : Nat) (x : OV) (dk num : Int) (bo : Option Addr) (bc : Nat) (bs : List UInt8) (hi300 : i < 300) (hNl : N < 65536) (HK : Hid (x.Ok w p m i wr)) (HKU : Hid (∀ u, Fr (fun _ => False) wr u → x.Ok w p m (i + 1) u)) (HXA : Hid (Bx wA Z #[.int .i64 dk, .int .i64 num, .slice bo bs.length bc] 63)) (HBS : Hid (BAt w bo bc bs)) (HXW : Hid (Fr (fun _ => False) wr wA))
    {K : Act → World → Prop} {Q' : Exit → Act → World → Prop} {df : List Deferred} {s0 s1 s2 s3 s4 s5 s6 s7 s8 s9 s11 s19 s22 s23 s24 s25 s26 s27 s28 s29 s30 s31 s32 s33 s34 s35 s36 s37 s38 s39 s40 s41 s42 s43 s44 s45 s46 s47 s48 s49 s50 s51 s52 s53 s54 s55 s56 s57 s58 s59 s60 s61 s62 s63 s64 s65 s66 s67 s68 s69 s70 s71 s72 s73 s74 s75 s77 s78 s79 s80 s81 s82 s83 s84 s85 s86 s87 s88 s89 s90 s91 s92 s93 s94 s95 s96 s97 s98 s99 s100 s101 s102 s103 s104 s105 s106 s107 s108 s109 s110 s111 s112 s113 s114 s115 s116 s117 s118 s119 s120 s121 s122 s123 s124 s125 s126 s127 s128 s129 s130 s131 s132 s133 s134 s135 s136 s137 s138 s139 s140 s141 s142 s143 s144 s145 s146 s147 s148 s149 s150 s151 s152 s153 s154 s155 s156 s157 s158 s159 s160 s161 s162 s163 s164 s165 s166 s167 s168 s169 s170 s171 s172 s173 s174 s175 s176 s177 s178 s179 s180 s181 s182 s183 s184 s185 s186 s187 s188 s189 s190 s191 s192 s193 s194 s195 s196 s197 s198 s199 s200 s201 s202 s203 s204 s205 s206 s207 s208 s209 s210 s211 s212 s213 s214 s215 s216 s217 s218 s219 s220 s221 s222 s223 s224 : Value}
    (hK : ∀ (y : OV) (wc : World) (u8 u22 u23 u24 u25 u26 u77 u78 u79 u80 u81 u82 u83 u84 u85 u86 u87 u88 u89 u90 u91 u92 u93 u94 u95 u96 u97 u98 u99 u100 u101 u102 u103 u104 u105 u106 u107 u108 u109 u110 u111 u112 u113 u114 u115 u116 u117 u118 u119 u120 u121 u122 u123 u124 u125 u126 u127 u128 u129 u130 u131 u132 u133 u134 u135 u136 u137 u138 u139 u140 u141 u142 u143 u144 u145 u146 u147 u148 u149 u150 u151 u152 u153 u154 u155 u156 u157 u158 u159 u160 u161 u162 u163 u164 u165 u166 u167 u168 u169 u170 u171 u172 u173 u174 u175 u176 u177 u178 u179 u180 u181 u182 u183 u184 u185 u186 u187 u188 u189 u190 u191 u192 u193 u194 u195 u196 u197 u198 u199 u200 u201 u202 u203 u204 u205 u206 u207 u208 : Value), Hid (y.Ok w p m (i + 1) wc) → K ⟨[s0, s1, s2, s3, s4, s5, s6, s7, u8, s9, .pointer (some ⟨p, 0, none⟩), s11, .pointer (some ⟨y.q, 0, none⟩), .slice y.io y.its.length y.ic, .slice y.fo y.fs.length y.fc, .slice y.ao y.aks.length y.ac, .slice y.tko y.tk.length y.tc, .int .i64 (y.g : Int), .int .i64 (y.l : Int), s19, .pointer (some ⟨Z, 0, none⟩), .int .i64 (N : Int), u22, u23, u24, u25, u26, s27, s28, s29, s30, s31, s32, s33, s34, s35, s36, s37, s38, s39, s40, s41, s42, s43, s44, s45, s46, s47, s48, s49, s50, s51, s52, s53, s54, s55, s56, s57, s58, s59, s60, s61, s62, s63, s64, s65, s66, s67, s68, s69, s70, s71, s72, s73, s74, s75, .int .i64 dk, u77, u78, u79, u80, u81, u82, u83, u84, u85, u86, u87, u88, u89, u90, u91, u92, u93, u94, u95, u96, u97, u98, u99, u100, u101, u102, u103, u104, u105, u106, u107, u108, u109, u110, u111, u112, u113, u114, u115, u116, u117, u118, u119, u120, u121, u122, u123, u124, u125, u126, u127, u128, u129, u130, u131, u132, u133, u134, u135, u136, u137, u138, u139, u140, u141, u142, u143, u144, u145, u146, u147, u148, u149, u150, u151, u152, u153, u154, u155, u156, u157, u158, u159, u160, u161, u162, u163, u164, u165, u166, u167, u168, u169, u170, u171, u172, u173, u174, u175, u176, u177, u178, u179, u180, u181, u182, u183, u184, u185, u186, u187, u188, u189, u190, u191, u192, u193, u194, u195, u196, u197, u198, u199, u200, u201, u202, u203, u204, u205, u206, u207, u208, s209, s210, s211, s212, s213, s214, s215, s216, s217, s218, s219, s220, s221, s222, s223, s224].toArray, df⟩ wc) :
    (block2 ((Tryd.f6.body).getD .skip)).wp Tryd.prog (Exit.then K Q') ⟨[s0, s1, s2, s3, s4, s5, s6, s7, s8, s9, .pointer (some ⟨p, 0, none⟩), s11, .pointer (some ⟨x.q, 0, none⟩), .slice x.io x.its.length x.ic, .slice x.fo x.fs.length x.fc, .slice x.ao x.aks.length x.ac, .slice x.tko x.tk.length x.tc, .int .i64 (x.g : Int), .int .i64 (x.l : Int), s19, .pointer (some ⟨Z, 0, none⟩), .int .i64 (N : Int), s22, s23, s24, s25, s26, s27, s28, s29, s30, s31, s32, s33, s34, s35, s36, s37, s38, s39, s40, s41, s42, s43, s44, s45, s46, s47, s48, s49, s50, s51, s52, s53, s54, s55, s56, s57, s58, s59, s60, s61, s62, s63, s64, s65, s66, s67, s68, s69, s70, s71, s72, s73, s74, s75, .int .i64 dk, s77, s78, s79, s80, s81, s82, s83, s84, s85, s86, s87, s88, s89, s90, s91, s92, s93, s94, s95, s96, s97, s98, s99, s100, s101, s102, s103, s104, s105, s106, s107, s108, s109, s110, s111, s112, s113, s114, s115, s116, s117, s118, s119, s120, s121, s122, s123, s124, s125, s126, s127, s128, s129, s130, s131, s132, s133, s134, s135, s136, s137, s138, s139, s140, s141, s142, s143, s144, s145, s146, s147, s148, s149, s150, s151, s152, s153, s154, s155, s156, s157, s158, s159, s160, s161, s162, s163, s164, s165, s166, s167, s168, s169, s170, s171, s172, s173, s174, s175, s176, s177, s178, s179, s180, s181, s182, s183, s184, s185, s186, s187, s188, s189, s190, s191, s192, s193, s194, s195, s196, s197, s198, s199, s200, s201, s202, s203, s204, s205, s206, s207, s208, s209, s210, s211, s212, s213, s214, s215, s216, s217, s218, s219, s220, s221, s222, s223, s224].toArray, df⟩ wA := by
  have HKK := hide hK
  have hi3J : (i : Int) < 300 := by omega
  clear hK
  dsimp only [block2, cM, cA, cB, cI, cT, cE, Tryd.f6, Option.getD]
  go_cut [12, 13, 14, 15, 16, 17, 18, 22, 23, 24, 25, 26] from 77 to 208 (fun v12 v13 v14 v15 v16 v17 v18 _ _ _ _ _ wc => ∃ y : OV, v12 = .pointer (some ⟨y.q, 0, none⟩) ∧ v13 = .slice y.io y.its.length y.ic ∧ v14 = .slice y.fo y.fs.length y.fc ∧ v15 = .slice y.ao y.aks.length y.ac ∧ v16 = .slice y.tko y.tk.length y.tc ∧ v17 = .int .i64 (y.g : Int) ∧ v18 = .int .i64 (y.l : Int) ∧ Hid (y.Ok w p m (i + 1) wc))
  case first =>
    clear HKK
    by_cases d0 : dk = 0
    · subst d0
      go_upto_region 19 with (fail)
      refine wp_then ?_
      refine once_tick w wr wA p m i x hi300 HK (unhide HKU _ (unhide HXW)) ?_
      intro R' s' fo' fc' fb' hs' fs' w6 u79 u80 u81 u82 u83 u84 u85 HY
      go_wp2
      go_meet
      exact ⟨{ x with R := R', s := s', fo := fo', fc := fc', fb := fb', hs := hs', fs := fs' }, rfl, rfl, rfl, rfl, rfl, rfl, rfl, HY⟩
    have q0' : (dk == 0) = false := by simp [d0]
    by_cases d1 : dk = 1
    · subst d1
      clear d0
      by_cases hf0 : x.fs.length = 0
      · have hz0 : ((x.fs.length : Int) == 0) = true := by rw [beq_iff_eq]; omega
        have hz1 : (x.fs.length == 0) = true := by rw [beq_iff_eq]; omega
        clear hf0
        go_wp2
        go_meet
        exact ⟨x, rfl, rfl, rfl, rfl, rfl, rfl, rfl, hide (unhide HKU _ (unhide HXW))⟩
      · have hz0 : ((x.fs.length : Int) == 0) = false := by rw [beq_eq_false_iff_ne]; omega
        have hz1 : (x.fs.length == 0) = false := by rw [beq_eq_false_iff_ne]; omega
        have hkl : N % x.fs.length < x.fs.length := Nat.mod_lt _ (by omega)
        have hmod : (N : Int).tmod (x.fs.length : Int) = ((N % x.fs.length : Nat) : Int) := by rw [Int.tmod_eq_emod_of_nonneg (by omega)]; exact (Int.natCast_emod _ _).symm
        have hok := unhide HKU _ (unhide HXW)
        obtain ⟨ba, sq, ii, ho, hc, hfo, c0, c1, c2, c3, c4, hAt, hfm⟩ := hok.frameAt hkl
        have HFO := hide hfo
        obtain ⟨d, g1, g2, g3, g4, g5⟩ := hok.li.gotten hfm
        have hlg := hok.li.got hfm
        have hnx := hok.li.nx
        have hfew := hok.li.few
        have hca := got_fresh hok.os.rv (by omega) ⟨1, ba, sq, ii, []⟩ ho hc none 0 hAt rfl (hok.li.fr _ hfm).may
        rw [g1, g2, numI_length] at hca
        have HCA := hide hca
        have hMn : max x.n ba ≤ (x.its.length : Int) + 1 := hlg.nx.2.1
        have HG := hide (And.intro g3 (And.intro g5 (And.intro hMn hfew)))
        have HLG := hide hlg
        have HOK := hide hok
        simp only at HG HLG HCA
        have HB2 := hide (unhide HK).b2
        generalize N % x.fs.length = kk at *
        have hkI : (kk : Int) < (x.fs.length : Int) := by omega
        have hLs : (x.fs.length : Int) ≤ 19200 := by have := (unhide HK).b2; omega
        have hdI : (d.length : Int) ≤ 8 := by omega
        generalize max x.n ba = M at *
        clear hok hca hlg hnx hfew hAt hfm g1 g2 g3 g5 hMn hf0
        go_wp2_with fail
        refine (unhide HCA).mono ?_
        rintro e w5 ⟨ro, rc, rfl, H5⟩
        have HO5 : Hid (({ x with n := M } : OV).Ok w p m (i + 1) w5) := by
          have hk := unhide HOK
          obtain ⟨r1, r2, r3, r4⟩ := unhide H5
          exact hide ⟨hk.os.recv r3 r1, unhide HLG, hk.b1, hk.b2, hk.b3, hk.b4, hk.b5, hk.sb⟩
        have HIT := hide (unhide H5).2.1
        clear H5 HCA c0 c1 c2 c3 c4
        go_wp2
        go_loopw [18, 23, 24] (fun v18 v23 _ wl => ∃ (k l' : Nat) (tk' : List Bool), k ≤ d.length ∧ v18 = .int .i64 (l' : Int) ∧ v23 = .int .i64 (k : Int) ∧ Hid (({ x with n := M + (k : Int), l := l', tk := tk' } : OV).Ok w p m (i + 1) wl ∧ tk'.length = x.tk.length ∧ Fr (fun k => k < wA.heap.size) w5 wl)) (fun _ v23 _ _ => d.length - (intOf v23).toNat)
        case atStart => exact ⟨0, x.l, x.tk, Nat.zero_le _, rfl, rfl, hide ⟨by have := unhide HO5; simpa using this, rfl, Fr.refl _ _⟩⟩
        case round =>
          obtain ⟨k, l', tk', hk, rfl, rfl, HKL⟩ := hrel
          by_cases hkd : k < d.length
          · have hkI2 : (k : Int) < (d.length : Int) := by omega
            go_upto_block 4 with (fail)
            refine once_take w wr w5 wA p m i k l' x d M ro rc tk' hkd hdI HKL HIT HG HOK ?_
            intro l2 tk2 wE u8 u24 u106 u107 u108 u109 u110 u111 u112 u113 u114 u115 u116 u117 u118 u119 u120 u121 u122 u123 u124 u125 u126 u127 u128 u129 u130 u131 u132 u133 u134 u135 u136 u137 u138 u139 u140 u141 u142 u143 u144 u145 u146 u147 u148 u149 u150 u151 u152 u153 u154 u155 u156 u157 u158 u159 u160 u161 u162 HE
            go_wp2
            exact ⟨⟨k + 1, l2, tk2, by omega, rfl, by go_num, HE⟩, by simp [intOf]; omega⟩
          · obtain rfl : k = d.length := by omega
            have hk0 : 0 < M + (d.length : Int) := by have := (unhide HG).1; omega
            have hkm : M + (d.length : Int) ≤ 4294967296 := by have := (unhide HKL).1.li.nx.2.1; have := (unhide HKL).1.li.few; simp only at *; omega
            have HN := hide (And.intro hk0 hkm)
            have HB3 := hide (unhide HK).b3
            obtain ⟨infoF, hif, hzf⟩ := Option.map_eq_some_iff.1 infoFm
            simp only [Prod.mk.injEq] at hzf
            have HIF := hide (And.intro hif hzf)
            have hrv : RV wr x.q (M + (d.length : Int)) := (unhide HKL).1.os.rv
            have HRV := hide hrv
            clear hif hzf hk0 hkm hrv
            go_wp2_with fail
            refine (ack_some (unhide HRV) (unhide HN).1 (unhide HN).2).mono ?_
            rintro e w7 ⟨rfl, h7⟩
            have HO7 : Hid (({ x with n := M + (d.length : Int), l := l', tk := tk' } : OV).Os w p m ((w7.alloc (.cells #[.int .i64 2, .int .i64 0, .int .i64 (M + (d.length : Int) - 1), .slice none 0 0, .slice none 0 0] 36)).alloc (.cells #[.int .i64 2, .int .i64 0, .int .i64 (M + (d.length : Int) - 1), .slice none 0 0, .slice none 0 0] 36))) := hide (((unhide HKL).1.os.keep (unhide h7)).keep (((Fr.refl (fun _ => False) _).alloc _).alloc _))
            have hsr := (src_one (P := Tryd.prog) (w7.alloc (.cells #[.int .i64 2, .int .i64 0, .int .i64 (M + (d.length : Int) - 1), .slice none 0 0, .slice none 0 0] 36)) [.int .i64 2, .int .i64 0, .int .i64 (M + (d.length : Int) - 1), .slice none 0 0, .slice none 0 0] 60 36 5 Tryd.underlying60 rfl (fun u hu => by simp only [List.mem_cons, List.not_mem_nil, or_false] at hu; rcases hu with rfl | rfl | rfl | rfl | rfl <;> rfl) (W := (w7.alloc (.cells #[.int .i64 2, .int .i64 0, .int .i64 (M + (d.length : Int) - 1), .slice none 0 0, .slice none 0 0] 36)).alloc (.cells #[.int .i64 2, .int .i64 0, .int .i64 (M + (d.length : Int) - 1), .slice none 0 0, .slice none 0 0] 36)) (fun j => by rw [World.cell?_alloc_new]; simp))
            rw [heap_alloc w7] at hsr
            have HSR := hide hsr
            clear hsr
            have HAL := hide (ackC_length x.aks)
            clear h7 HRV
            go_wp2_with (at_builtin; refine wpList_append_krow _ rfl (.tmp 169) (.tmp 171) 60 60 rfl 36 infoF _ 5 (by omega) Tryd.underlying60 (unhide HIF).1 (unhide HIF).2.1 rfl (unhide HIF).2.2.1 rfl (unhide HO7).ar (unhide HAL) _ _ 1 rfl (unhide HSR) (by rw [(unhide HIF).2.2.2]; have := unhide HB3; omega) (by have := unhide HB3; omega) ?_)
            intro ao8 ac8 w8 ab8 hkr hgr
            have HO8 := hide (OS.ack (unhide HO7) (a := M + (d.length : Int) - 1) hkr hgr)
            have HY : Hid (({ x with R := reR x.R ab8 ac8 6, n := M + (d.length : Int), l := l', tk := tk', ao := ao8, ac := ac8, ab := ab8, aks := x.aks ++ [M + (d.length : Int) - 1] } : OV).Ok w p m (i + 1) w8) := by
              obtain ⟨hy, htl, hfr⟩ := unhide HKL
              refine hide ⟨unhide HO8, hy.li.ack (unhide HN).1, hy.b1, hy.b2, ?_, hy.b4, hy.b5, hy.sb⟩
              show (x.aks ++ [M + (d.length : Int) - 1]).length ≤ i + 1
              rw [List.length_append]
              have := unhide HB3
              simp
              omega
            have HTL : Hid (tk'.length = x.tk.length) := hide (unhide HKL).2.1
            clear hkr hgr HSR HO7 HO8
            go_wp2
            go_meet
            exact ⟨{ x with R := reR x.R ab8 ac8 6, n := M + (d.length : Int), l := l', tk := tk', ao := ao8, ac := ac8, ab := ab8, aks := x.aks ++ [M + (d.length : Int) - 1] }, rfl, rfl, by (show Value.slice _ _ _ = Value.slice x.fo x.fs.length x.fc); rw [unhide HFO], by rw [List.length_append]; rfl, by (show Value.slice _ _ _ = Value.slice x.tko tk'.length x.tc); rw [unhide HTL], rfl, rfl, HY⟩
    have q1 : (dk == 1) = false := by simp [d1]
    by_cases d2 : dk = 2
    · subst d2
      clear d0 d1
      by_cases ha : x.aks.length = 0
      · have hgt : decide ((x.aks.length : Int) > 0) = false := decide_eq_false (by omega)
        have hgt2 : decide (0 < x.aks.length) = false := decide_eq_false (by omega)
        clear ha
        go_wp2
        go_meet
        exact ⟨x, rfl, rfl, rfl, rfl, rfl, rfl, rfl, hide (unhide HKU _ (unhide HXW))⟩
      · have hgt : decide ((x.aks.length : Int) > 0) = true := decide_eq_true (by omega)
        have hgt2 : decide (0 < x.aks.length) = true := decide_eq_true (by omega)
        have hz0 : ((x.aks.length : Int) == 0) = false := by rw [beq_eq_false_iff_ne]; omega
        have hkl : N % x.aks.length < x.aks.length := Nat.mod_lt _ (by omega)
        have hmod : (N : Int).tmod (x.aks.length : Int) = ((N % x.aks.length : Nat) : Int) := by rw [Int.tmod_eq_emod_of_nonneg (by omega)]; exact (Int.natCast_emod _ _).symm
        have hok := unhide HKU _ (unhide HXW)
        have hrow := hok.os.ar
        have hle := hrow.le
        rw [ackC_length] at hle
        have hao : x.ao = some ⟨x.ab, 0, none⟩ := hrow.ad (by omega)
        have hcl : wA.cell? ⟨x.ab, N % x.aks.length * 5 + 2, none⟩ = some (.int .i64 (x.aks[N % x.aks.length])) := by
          have hl : N % x.aks.length * 5 + 2 < (x.aks.flatMap ackC).length := by rw [ackC_length]; omega
          rw [hrow.cells _ hl, ← List.getElem?_eq_getElem hl]
          exact ackC_get x.aks _ hkl
        have hb3 := hok.b3
        have ham := List.getElem_mem hkl
        have hak := hok.li.ak _ ham
        have hif : (if (x.g : Int) < x.aks[N % x.aks.length] then x.aks[N % x.aks.length] else (x.g : Int)) = (((max (x.g : Int) x.aks[N % x.aks.length]).toNat : Nat) : Int) := by split <;> omega
        have HY : Hid (({ x with g := (max (x.g : Int) x.aks[N % x.aks.length]).toNat } : OV).Ok w p m (i + 1) wA) := hide ⟨hok.os, hok.li.gone ham, hok.b1, hok.b2, hok.b3, hok.b4, hok.b5, hok.sb⟩
        generalize x.aks[N % x.aks.length] = av at *
        generalize N % x.aks.length = kk at *
        have hkI : (kk : Int) < (x.aks.length : Int) := by omega
        have hLs : (x.aks.length : Int) ≤ 300 := by omega
        have HIF := hide hif
        clear hok hrow hle hb3 ham hak hif
        have HAO := hide hao
        go_wp2
        all_goals (go_meet; exact ⟨{ x with g := (max (x.g : Int) av).toNat }, rfl, rfl, rfl, by (show Value.slice _ _ _ = Value.slice x.ao x.aks.length x.ac); rw [unhide HAO], rfl, by (show Value.int .i64 _ = Value.int .i64 (((max (x.g : Int) av).toNat : Nat) : Int)); first | (rw [← unhide HIF]; done) | (congr 1; omega), rfl, HY⟩)
    have q2 : (dk == 2) = false := by simp [d2]
    by_cases d3 : dk = 3
    · subst d3
      clear d0 d1 d2
      go_wp2_with fail
      refine (newreceiver_any wA).mono ?_
      rintro e w5 ⟨rfl, h5, h6⟩
      have hy : ({ x with R := fun k => if k = wA.heap.size then 3 else x.R k, q := wA.heap.size, n := 0, l := 0 } : OV).Ok w p m (i + 1) w5 := by
        rw [h6]
        have h := unhide HKU _ (unhide HXW)
        exact ⟨h.os.anew, h.li.anew, h.b1, h.b2, h.b3, h.b4, h.b5, h.sb⟩
      clear h5 h6
      have HY := hide hy
      clear hy
      go_wp2
      go_meet
      exact ⟨{ x with R := fun k => if k = wA.heap.size then 3 else x.R k, q := wA.heap.size, n := 0, l := 0 }, rfl, rfl, rfl, rfl, rfl, rfl, rfl, HY⟩
    have q3 : (dk == 3) = false := by simp [d3]
    by_cases d4 : dk = 4
    · subst d4
      clear d0 d1 d2 d3
      have b2 : wA.cell? ⟨Z, 2, none⟩ = some (.slice bo bs.length bc) := (unhide HXA).cell 2
      go_upto_if 191 with (fail)
      refine wp_then ?_
      refine once_item w wr wA p m i Z x bo bc bs hi300 HK (unhide HKU _ (unhide HXW)) HBS b2 ?_
      intro R' io' ic' ib' es' its' tko' tc' tb' tk' w6 u193 u194 u195 u196 u197 u198 u199 u200 u201 u202 u203 u204 u205 u206 u207 u208 HY
      go_wp2
      go_meet
      exact ⟨{ x with R := R', io := io', ic := ic', ib := ib', es := es', its := its', tko := tko', tc := tc', tb := tb', tk := tk' }, rfl, rfl, rfl, rfl, rfl, rfl, rfl, HY⟩
    have q4 : (dk == 4) = false := by simp [d4]
    clear d0 d1 d2 d3 d4
    go_wp2
    go_meet
    exact ⟨x, rfl, rfl, rfl, rfl, rfl, rfl, rfl, hide (unhide HKU _ (unhide HXW))⟩
  case rest =>
    obtain ⟨y, rfl, rfl, rfl, rfl, rfl, rfl, rfl, HY⟩ := hcut
    exact unhide HKK y _ _ _ _ _ _ _ _ _ _ _ _ _ _ _ _ _ _ _ _ _ _ _ _ _ _ _ _ _ _ _ _ _ _ _ _ _ _ _ _ _ _ _ _ _ _ _ _ _ _ _ _ _ _ _ _ _ _ _ _ _ _ _ _ _ _ _ _ _ _ _ _ _ _ _ _ _ _ _ _ _ _ _ _ _ _ _ _ _ _ _ _ _ _ _ _ _ _ _ _ _ _ _ _ _ _ _ _ _ _ _ _ _ _ _ _ _ _ _ _ _ _ _ _ _ _ _ _ _ _ _ _ _ _ _ _ _ _ _ HY

end Go.Proofs.YtphkjeeblihfgaaDoor

