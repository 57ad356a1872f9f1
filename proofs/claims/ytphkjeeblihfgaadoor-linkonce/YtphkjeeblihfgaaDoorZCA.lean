import Derived.Test.YtphkjeeblihfgaaDoorZCB
/- LinkOnce: its loop. -/
namespace Go.Proofs.YtphkjeeblihfgaaDoor
open Go.RowKit Go.Maps

def block0 (b : Code) : Code := cB (cA (cB (cB (cB (cB (cB (cB (cB (cB (cB (cB (cB b))))))))))))

set_option maxHeartbeats 40000000 in
set_option maxRecDepth 20000 in
theorem once_loop (w w4 : World) (p m : Nat) (so : Option Addr) (sc : Nat) (xs : List StA) (hsI : (xs.length : Int) ≤ 140737488355328) (HS : Hid (StsAt w so xs)) {v12 v13 v14 v15 v16 : Value}
    (HX : Hid (∃ x : OV, x.v12 = v12 ∧ x.v13 = v13 ∧ x.v14 = v14 ∧ x.v15 = v15 ∧ x.v16 = v16 ∧ x.g = 0 ∧ x.l = 0 ∧ x.Ok w p m 0 w4))
    {K : Act → World → Prop} {Q' : Exit → Act → World → Prop} {df : List Deferred} {s0 s1 s2 s4 s5 s6 s7 s8 s9 s11 s20 s21 s22 s23 s24 s25 s26 s27 s28 s29 s30 s31 s32 s33 s34 s35 s36 s37 s38 s39 s40 s41 s42 s43 s44 s45 s46 s47 s48 s49 s50 s51 s52 s53 s54 s55 s56 s57 s58 s59 s60 s61 s62 s63 s64 s65 s66 s67 s68 s69 s70 s71 s72 s73 s74 s75 s76 s77 s78 s79 s80 s81 s82 s83 s84 s85 s86 s87 s88 s89 s90 s91 s92 s93 s94 s95 s96 s97 s98 s99 s100 s101 s102 s103 s104 s105 s106 s107 s108 s109 s110 s111 s112 s113 s114 s115 s116 s117 s118 s119 s120 s121 s122 s123 s124 s125 s126 s127 s128 s129 s130 s131 s132 s133 s134 s135 s136 s137 s138 s139 s140 s141 s142 s143 s144 s145 s146 s147 s148 s149 s150 s151 s152 s153 s154 s155 s156 s157 s158 s159 s160 s161 s162 s163 s164 s165 s166 s167 s168 s169 s170 s171 s172 s173 s174 s175 s176 s177 s178 s179 s180 s181 s182 s183 s184 s185 s186 s187 s188 s189 s190 s191 s192 s193 s194 s195 s196 s197 s198 s199 s200 s201 s202 s203 s204 s205 s206 s207 s208 s209 s210 s211 s212 s213 s214 s215 s216 s217 s218 s219 s220 s221 s222 s223 s224 : Value}
    (hK : ∀ (w' : World) (u8 u12 u13 u14 u15 u16 u17 u18 u19 u20 u21 u22 u23 u24 u25 u26 u27 u58 u59 u60 u61 u62 u63 u64 u65 u66 u67 u68 u69 u70 u71 u72 u73 u74 u75 u76 u77 u78 u79 u80 u81 u82 u83 u84 u85 u86 u87 u88 u89 u90 u91 u92 u93 u94 u95 u96 u97 u98 u99 u100 u101 u102 u103 u104 u105 u106 u107 u108 u109 u110 u111 u112 u113 u114 u115 u116 u117 u118 u119 u120 u121 u122 u123 u124 u125 u126 u127 u128 u129 u130 u131 u132 u133 u134 u135 u136 u137 u138 u139 u140 u141 u142 u143 u144 u145 u146 u147 u148 u149 u150 u151 u152 u153 u154 u155 u156 u157 u158 u159 u160 u161 u162 u163 u164 u165 u166 u167 u168 u169 u170 u171 u172 u173 u174 u175 u176 u177 u178 u179 u180 u181 u182 u183 u184 u185 u186 u187 u188 u189 u190 u191 u192 u193 u194 u195 u196 u197 u198 u199 u200 u201 u202 u203 u204 u205 u206 u207 u208 u209 u210 u211 u212 u213 u214 u215 u216 u217 u218 u219 u220 u221 u222 u223 u224 : Value), Hid (Fr (fun _ => False) w w') → K ⟨[s0, s1, s2, .slice so xs.length sc, s4, s5, s6, s7, u8, s9, .pointer (some ⟨p, 0, none⟩), s11, u12, u13, u14, u15, u16, u17, u18, u19, u20, u21, u22, u23, u24, u25, u26, u27, s28, s29, s30, s31, s32, s33, s34, s35, s36, s37, s38, s39, s40, s41, s42, s43, s44, s45, s46, s47, s48, s49, s50, s51, s52, s53, s54, s55, s56, s57, u58, u59, u60, u61, u62, u63, u64, u65, u66, u67, u68, u69, u70, u71, u72, u73, u74, u75, u76, u77, u78, u79, u80, u81, u82, u83, u84, u85, u86, u87, u88, u89, u90, u91, u92, u93, u94, u95, u96, u97, u98, u99, u100, u101, u102, u103, u104, u105, u106, u107, u108, u109, u110, u111, u112, u113, u114, u115, u116, u117, u118, u119, u120, u121, u122, u123, u124, u125, u126, u127, u128, u129, u130, u131, u132, u133, u134, u135, u136, u137, u138, u139, u140, u141, u142, u143, u144, u145, u146, u147, u148, u149, u150, u151, u152, u153, u154, u155, u156, u157, u158, u159, u160, u161, u162, u163, u164, u165, u166, u167, u168, u169, u170, u171, u172, u173, u174, u175, u176, u177, u178, u179, u180, u181, u182, u183, u184, u185, u186, u187, u188, u189, u190, u191, u192, u193, u194, u195, u196, u197, u198, u199, u200, u201, u202, u203, u204, u205, u206, u207, u208, u209, u210, u211, u212, u213, u214, u215, u216, u217, u218, u219, u220, u221, u222, u223, u224].toArray, df⟩ w') :
    (block0 ((Tryd.f6.body).getD .skip)).wp Tryd.prog (Exit.then K Q') ⟨[s0, s1, s2, .slice so xs.length sc, s4, s5, s6, s7, s8, s9, .pointer (some ⟨p, 0, none⟩), s11, v12, v13, v14, v15, v16, .int .i64 0, .int .i64 0, .int .i64 0, s20, s21, s22, s23, s24, s25, s26, s27, s28, s29, s30, s31, s32, s33, s34, s35, s36, s37, s38, s39, s40, s41, s42, s43, s44, s45, s46, s47, s48, s49, s50, s51, s52, s53, s54, s55, s56, s57, s58, s59, s60, s61, s62, s63, s64, s65, s66, s67, s68, s69, s70, s71, s72, s73, s74, s75, s76, s77, s78, s79, s80, s81, s82, s83, s84, s85, s86, s87, s88, s89, s90, s91, s92, s93, s94, s95, s96, s97, s98, s99, s100, s101, s102, s103, s104, s105, s106, s107, s108, s109, s110, s111, s112, s113, s114, s115, s116, s117, s118, s119, s120, s121, s122, s123, s124, s125, s126, s127, s128, s129, s130, s131, s132, s133, s134, s135, s136, s137, s138, s139, s140, s141, s142, s143, s144, s145, s146, s147, s148, s149, s150, s151, s152, s153, s154, s155, s156, s157, s158, s159, s160, s161, s162, s163, s164, s165, s166, s167, s168, s169, s170, s171, s172, s173, s174, s175, s176, s177, s178, s179, s180, s181, s182, s183, s184, s185, s186, s187, s188, s189, s190, s191, s192, s193, s194, s195, s196, s197, s198, s199, s200, s201, s202, s203, s204, s205, s206, s207, s208, s209, s210, s211, s212, s213, s214, s215, s216, s217, s218, s219, s220, s221, s222, s223, s224].toArray, df⟩ w4 := by
  have HKK := hide hK
  clear hK
  dsimp only [block0, cA, cB, cI, cT, cE, Tryd.f6, Option.getD]
  go_cut [] from 58 to 224 (fun wc => Hid (Fr (fun _ => False) w wc))
  case rest =>
    exact unhide HKK _ _ _ _ _ _ _ _ _ _ _ _ _ _ _ _ _ _ _ _ _ _ _ _ _ _ _ _ _ _ _ _ _ _ _ _ _ _ _ _ _ _ _ _ _ _ _ _ _ _ _ _ _ _ _ _ _ _ _ _ _ _ _ _ _ _ _ _ _ _ _ _ _ _ _ _ _ _ _ _ _ _ _ _ _ _ _ _ _ _ _ _ _ _ _ _ _ _ _ _ _ _ _ _ _ _ _ _ _ _ _ _ _ _ _ _ _ _ _ _ _ _ _ _ _ _ _ _ _ _ _ _ _ _ _ _ _ _ _ _ _ _ _ _ _ _ _ _ _ _ _ _ _ _ _ _ _ _ _ _ _ _ _ _ _ _ _ _ _ _ _ _ _ _ _ _ _ _ _ _ _ _ _ _ _ hcut
  case first =>
    clear HKK
    go_wp2
    go_loopw [12, 13, 14, 15, 16, 17, 18, 19] (fun v12 v13 v14 v15 v16 v17 v18 v19 wr => ∃ (i : Nat) (x : OV), i ≤ xs.length ∧ i ≤ 300 ∧ v12 = .pointer (some ⟨x.q, 0, none⟩) ∧ v13 = .slice x.io x.its.length x.ic ∧ v14 = .slice x.fo x.fs.length x.fc ∧ v15 = .slice x.ao x.aks.length x.ac ∧ v16 = .slice x.tko x.tk.length x.tc ∧ v17 = .int .i64 (x.g : Int) ∧ v18 = .int .i64 (x.l : Int) ∧ v19 = .int .i64 i ∧ Hid (x.Ok w p m i wr)) (fun _ _ _ _ _ _ _ v19 _ => 301 - (intOf v19).toNat)
    case atStart =>
      obtain ⟨x, h12, h13, h14, h15, h16, hg, hl, hok⟩ := unhide HX
      exact ⟨0, x, Nat.zero_le _, by omega, h12.symm, h13.symm, h14.symm, h15.symm, h16.symm, by rw [hg]; rfl, by rw [hl]; rfl, rfl, hide hok⟩
    case round =>
      obtain ⟨i, x, hi, hi3, rfl, rfl, rfl, rfl, rfl, rfl, rfl, rfl, HK⟩ := hrel
      have hi3I : (i : Int) ≤ 300 := by omega
      by_cases hil : i < xs.length ∧ i < 300
      · obtain ⟨hil, hi300⟩ := hil
        have hiI : (i : Int) < (xs.length : Int) := by omega
        have hi3J : (i : Int) < 300 := by omega
        obtain ⟨sb, so2, e, hc⟩ := (unhide HS).cells (by omega)
        subst e
        have HBS := hide ((unhide HS).bat xs[i] (List.getElem_mem hil))
        have hc0 := hc i hil 0 (by omega)
        have hc1 := hc i hil 1 (by omega)
        have hc2 := hc i hil 2 (by omega)
        clear hc
        generalize xs[i] = st at *
        obtain ⟨dk, num, bo, bc, bs⟩ := st
        simp only [StA.vals, List.getElem?_cons_zero, List.getElem?_cons_succ] at hc0 hc1 hc2 HBS
        have hfr := (unhide HK).os.fr
        have c0 : wr.cell? ⟨sb, so2 + i * 3, none⟩ = some (.int .i64 dk) := (hfr.cell (World.block_lt_of_cell? _ _ hc0) (fun t => t)).trans hc0
        have c1 : wr.cell? ⟨sb, so2 + i * 3 + 1, none⟩ = some (.int .i64 num) := (hfr.cell (World.block_lt_of_cell? _ _ hc1) (fun t => t)).trans hc1
        have c2 : wr.cell? ⟨sb, so2 + i * 3 + 2, none⟩ = some (.slice bo bs.length bc) := (hfr.cell (World.block_lt_of_cell? _ _ hc2) (fun t => t)).trans hc2
        have hand : bits .and .i64 num 65535 = num % 65536 := i64_and65535 num
        obtain ⟨N, hN⟩ : ∃ N : Nat, num % 65536 = (N : Int) := ⟨(num % 65536).toNat, by omega⟩
        have hNl : N < 65536 := by omega
        rw [hN] at hand
        have hblt := World.block_lt_of_cell? _ _ c0
        clear hc0 hc1 hc2 hN hfr
        have HKA := hide ((unhide HK).os.keep ((Fr.refl (fun _ => False) wr).alloc (.cells #[.int .i64 dk, .int .i64 num, .slice bo bs.length bc] 63)))
        have HXA := hide (Bx.new wr #[.int .i64 dk, .int .i64 num, .slice bo bs.length bc] 63)
        have HKU : Hid ((∀ u, Fr (fun _ => False) wr u → x.Ok w p m (i + 1) u)) := hide (fun u hu => ⟨(unhide HK).os.keep hu, (unhide HK).li, by have := (unhide HK).b1; omega, by have := (unhide HK).b2; omega, by have := (unhide HK).b3; omega, by have := (unhide HK).b4; omega, by have := (unhide HK).b5; omega, (unhide HK).sb⟩)
        go_upto_block 2 with (fail)
        have HXW : Hid (Fr (fun _ => False) wr (wr.alloc (.cells #[.int .i64 dk, .int .i64 num, .slice bo bs.length bc] 63))) := hide ((Fr.refl _ _).alloc _)
        generalize wr.alloc (.cells #[.int .i64 dk, .int .i64 num, .slice bo bs.length bc] 63) = wA at *
        generalize wr.heap.size = Z at *
        clear c0 c1 c2 hand hblt
        refine once_switch w wr wA p m i Z N x dk num bo bc bs hi300 hNl HK HKU HXA HBS HXW ?_
        intro y wc u8 u22 u23 u24 u25 u26 u77 u78 u79 u80 u81 u82 u83 u84 u85 u86 u87 u88 u89 u90 u91 u92 u93 u94 u95 u96 u97 u98 u99 u100 u101 u102 u103 u104 u105 u106 u107 u108 u109 u110 u111 u112 u113 u114 u115 u116 u117 u118 u119 u120 u121 u122 u123 u124 u125 u126 u127 u128 u129 u130 u131 u132 u133 u134 u135 u136 u137 u138 u139 u140 u141 u142 u143 u144 u145 u146 u147 u148 u149 u150 u151 u152 u153 u154 u155 u156 u157 u158 u159 u160 u161 u162 u163 u164 u165 u166 u167 u168 u169 u170 u171 u172 u173 u174 u175 u176 u177 u178 u179 u180 u181 u182 u183 u184 u185 u186 u187 u188 u189 u190 u191 u192 u193 u194 u195 u196 u197 u198 u199 u200 u201 u202 u203 u204 u205 u206 u207 u208 HY
        clear HKU HKA HXA HXW HK HBS
        go_upto_block 5 with (fail)
        refine wp_then ?_
        refine once_gone w wc p m i y HY ?_
        intro u8 u27 u209 u210 u211 u212 u213 u214 u215 u216 u217 u218 u219 u220 u221 u222 u223 u224
        go_wp2
        exact ⟨⟨i + 1, y, by omega, by omega, rfl, rfl, rfl, rfl, rfl, rfl, rfl, by go_num, HY⟩, by simp [intOf]; omega⟩
      · have hend : decide ((i : Int) < (xs.length : Int)) = false ∨ decide ((i : Int) < 300) = false := by simp; omega
        have HF := hide (unhide HK).os.fr
        clear HK
        by_cases hlx : (i : Int) < (xs.length : Int)
        · have hd2 : decide ((i : Int) < (xs.length : Int)) = true := by simp; omega
          have hd3 : decide ((i : Int) < 300) = false := by simp; omega
          clear hend hil
          go_wp2
          go_meet
          exact HF
        · have hd2 : decide ((i : Int) < (xs.length : Int)) = false := by simp; omega
          clear hend hil
          go_wp2
          go_meet
          exact HF

end Go.Proofs.YtphkjeeblihfgaaDoor

