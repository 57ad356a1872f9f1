import Derived.Test.YtphkjeeblihfgaaDoorZC5
/- LinkOnce: a tick. -/
namespace Go.Proofs.YtphkjeeblihfgaaDoor
open Go.RowKit Go.Maps

set_option maxHeartbeats 40000000 in
set_option maxRecDepth 20000 in
theorem once_tick (w wr wA : World) (p m i : Nat) (x : OV) (hi300 : i < 300) (HK : Hid (x.Ok w p m i wr)) (hok : x.Ok w p m (i + 1) wA)
    {K : Act → World → Prop} {Q' : Exit → Act → World → Prop} {df : List Deferred} {s0 s1 s2 s3 s4 s5 s6 s7 s8 s9 s11 s12 s15 s16 s18 s19 s20 s21 s22 s23 s24 s25 s26 s27 s28 s29 s30 s31 s32 s33 s34 s35 s36 s37 s38 s39 s40 s41 s42 s43 s44 s45 s46 s47 s48 s49 s50 s51 s52 s53 s54 s55 s56 s57 s58 s59 s60 s61 s62 s63 s64 s65 s66 s67 s68 s69 s70 s71 s72 s73 s74 s75 s76 s77 s78 s79 s80 s81 s82 s83 s84 s85 s86 s87 s88 s89 s90 s91 s92 s93 s94 s95 s96 s97 s98 s99 s100 s101 s102 s103 s104 s105 s106 s107 s108 s109 s110 s111 s112 s113 s114 s115 s116 s117 s118 s119 s120 s121 s122 s123 s124 s125 s126 s127 s128 s129 s130 s131 s132 s133 s134 s135 s136 s137 s138 s139 s140 s141 s142 s143 s144 s145 s146 s147 s148 s149 s150 s151 s152 s153 s154 s155 s156 s157 s158 s159 s160 s161 s162 s163 s164 s165 s166 s167 s168 s169 s170 s171 s172 s173 s174 s175 s176 s177 s178 s179 s180 s181 s182 s183 s184 s185 s186 s187 s188 s189 s190 s191 s192 s193 s194 s195 s196 s197 s198 s199 s200 s201 s202 s203 s204 s205 s206 s207 s208 s209 s210 s211 s212 s213 s214 s215 s216 s217 s218 s219 s220 s221 s222 s223 s224 : Value}
    (hK : ∀ R' s' fo' fc' fb' hs' fs' (w6 : World) (u79 u80 u81 u82 u83 u84 u85 : Value), Hid (({ x with R := R', s := s', fo := fo', fc := fc', fb := fb', hs := hs', fs := fs' } : OV).Ok w p m (i + 1) w6) → K ⟨[s0, s1, s2, s3, s4, s5, s6, s7, s8, s9, .pointer (some ⟨p, 0, none⟩), s11, s12, .slice x.io x.its.length x.ic, (.slice fo' fs'.length fc'), s15, s16, .int .i64 (x.g : Int), s18, s19, s20, s21, s22, s23, s24, s25, s26, s27, s28, s29, s30, s31, s32, s33, s34, s35, s36, s37, s38, s39, s40, s41, s42, s43, s44, s45, s46, s47, s48, s49, s50, s51, s52, s53, s54, s55, s56, s57, s58, s59, s60, s61, s62, s63, s64, s65, s66, s67, s68, s69, s70, s71, s72, s73, s74, s75, s76, s77, s78, u79, u80, u81, u82, u83, u84, u85, s86, s87, s88, s89, s90, s91, s92, s93, s94, s95, s96, s97, s98, s99, s100, s101, s102, s103, s104, s105, s106, s107, s108, s109, s110, s111, s112, s113, s114, s115, s116, s117, s118, s119, s120, s121, s122, s123, s124, s125, s126, s127, s128, s129, s130, s131, s132, s133, s134, s135, s136, s137, s138, s139, s140, s141, s142, s143, s144, s145, s146, s147, s148, s149, s150, s151, s152, s153, s154, s155, s156, s157, s158, s159, s160, s161, s162, s163, s164, s165, s166, s167, s168, s169, s170, s171, s172, s173, s174, s175, s176, s177, s178, s179, s180, s181, s182, s183, s184, s185, s186, s187, s188, s189, s190, s191, s192, s193, s194, s195, s196, s197, s198, s199, s200, s201, s202, s203, s204, s205, s206, s207, s208, s209, s210, s211, s212, s213, s214, s215, s216, s217, s218, s219, s220, s221, s222, s223, s224].toArray, df⟩ w6) :
    (code19 ((Tryd.f6.body).getD .skip)).wp Tryd.prog (Exit.then K Q') ⟨[s0, s1, s2, s3, s4, s5, s6, s7, s8, s9, .pointer (some ⟨p, 0, none⟩), s11, s12, .slice x.io x.its.length x.ic, .slice x.fo x.fs.length x.fc, s15, s16, .int .i64 (x.g : Int), s18, s19, s20, s21, s22, s23, s24, s25, s26, s27, s28, s29, s30, s31, s32, s33, s34, s35, s36, s37, s38, s39, s40, s41, s42, s43, s44, s45, s46, s47, s48, s49, s50, s51, s52, s53, s54, s55, s56, s57, s58, s59, s60, s61, s62, s63, s64, s65, s66, s67, s68, s69, s70, s71, s72, s73, s74, s75, s76, s77, s78, s79, s80, s81, s82, s83, s84, s85, s86, s87, s88, s89, s90, s91, s92, s93, s94, s95, s96, s97, s98, s99, s100, s101, s102, s103, s104, s105, s106, s107, s108, s109, s110, s111, s112, s113, s114, s115, s116, s117, s118, s119, s120, s121, s122, s123, s124, s125, s126, s127, s128, s129, s130, s131, s132, s133, s134, s135, s136, s137, s138, s139, s140, s141, s142, s143, s144, s145, s146, s147, s148, s149, s150, s151, s152, s153, s154, s155, s156, s157, s158, s159, s160, s161, s162, s163, s164, s165, s166, s167, s168, s169, s170, s171, s172, s173, s174, s175, s176, s177, s178, s179, s180, s181, s182, s183, s184, s185, s186, s187, s188, s189, s190, s191, s192, s193, s194, s195, s196, s197, s198, s199, s200, s201, s202, s203, s204, s205, s206, s207, s208, s209, s210, s211, s212, s213, s214, s215, s216, s217, s218, s219, s220, s221, s222, s223, s224].toArray, df⟩ wA := by
  have HKK := hide hK
  have hi3J : (i : Int) < 300 := by omega
  clear hK
  dsimp only [code19, swO, cA, cB, cI, cT, cE, Tryd.f6, Option.getD]
  go_cut [13, 14] from 79 to 85 (fun v13 v14 wc => ∃ R' s' fo' fc' fb' hs' fs', v14 = .slice fo' fs'.length fc' ∧ v13 = .slice x.io x.its.length x.ic ∧ Hid (({ x with R := R', s := s', fo := fo', fc := fc', fb := fb', hs := hs', fs := fs' } : OV).Ok w p m (i + 1) wc))
  case rest =>
    obtain ⟨R', s', fo', fc', fb', hs', fs', rfl, rfl, HY⟩ := hcut
    exact unhide HKK R' s' fo' fc' fb' hs' fs' _ _ _ _ _ _ _ _ HY
  case first =>
    clear HKK
    have hgn := hok.li.gn.1
    have hfew := hok.li.few
    have hile := hok.os.ir.le
    rw [itsC_length 1 x.es x.its hok.os.el] at hile
    have hgI : (x.g : Int) ≤ (x.its.length : Int) := by omega
    have hicI : (x.its.length : Int) ≤ (x.ic : Int) := by omega
    have hta : ∀ (sio : Option Addr) (sic : Nat), (sio = Option.map (fun a => a.add (x.g * 2)) x.io ∨ x.its.length ≤ x.g) → x.its.length - x.g ≤ sic → Calls Tryd.prog 24 #[.pointer (some ⟨p, 0, none⟩), .slice sio (x.its.length - x.g) sic] wA fun e w' => ∃ fo fc, e = .returned (.slice fo (tickF x.s (numI ((x.g : Int) + 1) (x.its.drop x.g))).2.length fc) ∧ Hid (SN w' p m (tickF x.s (numI ((x.g : Int) + 1) (x.its.drop x.g))).1 ∧ (∃ fb xs, FL wA.heap.size w' fo fc fb xs ∧ xs.map FrM.f = (tickF x.s (numI ((x.g : Int) + 1) (x.its.drop x.g))).2) ∧ Fr (fun k => k = p ∨ k = m) wA w' ∧ FOk (baseOf (numI ((x.g : Int) + 1) (x.its.drop x.g))) x.s.bat 64 (tickF x.s (numI ((x.g : Int) + 1) (x.its.drop x.g))).2) := by
      intro sio sic h1 h2
      have htk := tick_any hok.os.sn sio sic (numI ((x.g : Int) + 1) (x.its.drop x.g)) (fun u hu => by
        rcases h1 with rfl | h1
        · exact hok.os.itsAt hu hgn hfew
        · have h0 : (numI ((x.g : Int) + 1) (x.its.drop x.g)).length = 0 := by rw [numI_length, List.length_drop]; omega
          exact ⟨fun t => by omega, by omega⟩) (by rw [numI_length, List.length_drop]; exact h2) (by have := (unhide HK).b4; omega) (by have := (unhide HK).b5; omega)
      rw [numI_length, List.length_drop] at htk
      exact htk
    have HTA := hide hta
    clear hta
    have HTS := hide (tick_sent x.s (numI ((x.g : Int) + 1) (x.its.drop x.g)))
    have HLT : Hid (FOk (baseOf (numI ((x.g : Int) + 1) (x.its.drop x.g))) x.s.bat 64 (tickF x.s (numI ((x.g : Int) + 1) (x.its.drop x.g))).2 → LI x.its (x.fs ++ (tickF x.s (numI ((x.g : Int) + 1) (x.its.drop x.g))).2) x.aks x.tk x.g x.l x.n) := hide (fun h => hok.li.tick x.s hok.sb.1 h)
    obtain ⟨infoF, hif, hzf⟩ := Option.map_eq_some_iff.1 infoFm
    simp only [Prod.mk.injEq] at hzf
    have HIF := hide (And.intro hif hzf)
    have HOK := hide hok
    generalize tickF x.s (numI ((x.g : Int) + 1) (x.its.drop x.g)) = TF at *
    have HGN := hide (And.intro hgn hile)
    clear hok hif hzf hfew hile
    have HCG0 : True := trivial
    by_cases hcg : x.ic = x.g
    · have HCG := hide hcg
      go_wp2_with fail
      refine (unhide HTA _ _ (.inr (by have := unhide HGN; have := unhide HCG; omega)) (by have := unhide HGN; have := unhide HCG; omega)).mono ?_
      rintro e w5 ⟨fo2, fc2, rfl, H5⟩
      obtain ⟨h1, ⟨fb2, ys, h2, h3⟩, h4, h5⟩ := unhide H5
      have hyl : ys.length = TF.2.length := by rw [← h3, List.length_map]
      have HO5 := hide ((unhide HOK).os.tick h4 h1)
      have HSR := hide (h2.row.src 60 36 (by omega) Tryd.underlying60 (n := TF.2.length) (by rw [flat5, hyl]))
      have HFLN := hide (frsC_length x.hs x.fs (unhide HOK).os.hl)
      have HLEN : Hid (x.fs.length ≤ 19200 ∧ TF.2.length ≤ 64) := hide ⟨by have := (unhide HK).b2; omega, h5.few⟩
      have HH := hide (And.intro h2 (And.intro h3 (And.intro h5 hyl)))
      clear h1 h2 h3 h4 h5 hyl H5
      go_wp2_with (at_builtin; refine wpList_append_krow _ rfl (.tmp 79) (.tmp 84) 60 60 rfl 36 infoF _ 5 (by omega) Tryd.underlying60 (unhide HIF).1 (unhide HIF).2.1 rfl (unhide HIF).2.2.1 rfl (unhide HO5).frr (unhide HFLN) _ _ _ rfl (unhide HSR) (by rw [(unhide HIF).2.2.2]; have := unhide HLEN; omega) (by have := unhide HLEN; omega) ?_)
      intro fo6 fc6 w6 fb6 hkr hgr
      have HY : Hid (({ x with R := reR x.R fb6 fc6 5, s := TF.1, fo := fo6, fc := fc6, fb := fb6, hs := x.hs ++ ys.map (fun y => (y.io, y.ic)), fs := x.fs ++ ys.map FrM.f } : OV).Ok w p m (i + 1) w6) := by
        have hk := unhide HOK
        have hd := unhide HK
        obtain ⟨h2, h3, h5, hyl⟩ := unhide HH
        have ho := OS.more (unhide HO5) (M := wA.heap.size) (fun k t => (hk.os.below t).2) h2 (fun y hy => by
          have := (h5.each y.f (by rw [← h3]; exact List.mem_map_of_mem hy)).2.2.2.1
          have := hk.sb.1
          omega) hkr hgr
        obtain ⟨t1, t2, t3, t4, t5⟩ := unhide HTS
        have hli := unhide HLT h5
        rw [← h3] at hli
        refine hide ⟨ho, hli, hk.b1, ?_, hk.b3, ?_, ?_, ?_⟩
        · show (x.fs ++ ys.map FrM.f).length ≤ 64 * (i + 1)
          rw [List.length_append, List.length_map]
          have := h5.few
          have := hd.b2
          omega
        · show TF.1.clk ≤ ((i + 1 : Nat) : Int)
          have := hd.b4
          omega
        · show TF.1.sent.length ≤ 64 * (i + 1)
          have := t5 hk.sb.2
          have := hd.b5
          omega
        · show TF.1.bat ≤ 8 ∧ TF.1.win ≤ 64
          rw [t2, t3]
          exact hk.sb
      have HYL : Hid (x.fs.length + TF.2.length = (x.fs ++ ys.map FrM.f).length) := hide (by rw [List.length_append, List.length_map, (unhide HH).2.2.2])
      clear hkr hgr HSR HO5 HTA
      go_wp2
      go_meet
      exact ⟨reR x.R fb6 fc6 5, TF.1, fo6, fc6, fb6, x.hs ++ ys.map (fun y => (y.io, y.ic)), x.fs ++ ys.map FrM.f, by (show Value.slice _ _ _ = Value.slice _ (x.fs ++ ys.map FrM.f).length _); rw [← unhide HYL], by (show Value.slice _ _ _ = Value.slice x.io x.its.length x.ic); rw [unhide HCG], HY⟩
    · go_wp2_with fail
      refine (unhide HTA _ _ (.inl rfl) (by have := unhide HGN; omega)).mono ?_
      rintro e w5 ⟨fo2, fc2, rfl, H5⟩
      obtain ⟨h1, ⟨fb2, ys, h2, h3⟩, h4, h5⟩ := unhide H5
      have hyl : ys.length = TF.2.length := by rw [← h3, List.length_map]
      have HO5 := hide ((unhide HOK).os.tick h4 h1)
      have HSR := hide (h2.row.src 60 36 (by omega) Tryd.underlying60 (n := TF.2.length) (by rw [flat5, hyl]))
      have HFLN := hide (frsC_length x.hs x.fs (unhide HOK).os.hl)
      have HLEN : Hid (x.fs.length ≤ 19200 ∧ TF.2.length ≤ 64) := hide ⟨by have := (unhide HK).b2; omega, h5.few⟩
      have HH := hide (And.intro h2 (And.intro h3 (And.intro h5 hyl)))
      clear h1 h2 h3 h4 h5 hyl H5
      go_wp2_with (at_builtin; refine wpList_append_krow _ rfl (.tmp 79) (.tmp 84) 60 60 rfl 36 infoF _ 5 (by omega) Tryd.underlying60 (unhide HIF).1 (unhide HIF).2.1 rfl (unhide HIF).2.2.1 rfl (unhide HO5).frr (unhide HFLN) _ _ _ rfl (unhide HSR) (by rw [(unhide HIF).2.2.2]; have := unhide HLEN; omega) (by have := unhide HLEN; omega) ?_)
      intro fo6 fc6 w6 fb6 hkr hgr
      have HY : Hid (({ x with R := reR x.R fb6 fc6 5, s := TF.1, fo := fo6, fc := fc6, fb := fb6, hs := x.hs ++ ys.map (fun y => (y.io, y.ic)), fs := x.fs ++ ys.map FrM.f } : OV).Ok w p m (i + 1) w6) := by
        have hk := unhide HOK
        have hd := unhide HK
        obtain ⟨h2, h3, h5, hyl⟩ := unhide HH
        have ho := OS.more (unhide HO5) (M := wA.heap.size) (fun k t => (hk.os.below t).2) h2 (fun y hy => by
          have := (h5.each y.f (by rw [← h3]; exact List.mem_map_of_mem hy)).2.2.2.1
          have := hk.sb.1
          omega) hkr hgr
        obtain ⟨t1, t2, t3, t4, t5⟩ := unhide HTS
        have hli := unhide HLT h5
        rw [← h3] at hli
        refine hide ⟨ho, hli, hk.b1, ?_, hk.b3, ?_, ?_, ?_⟩
        · show (x.fs ++ ys.map FrM.f).length ≤ 64 * (i + 1)
          rw [List.length_append, List.length_map]
          have := h5.few
          have := hd.b2
          omega
        · show TF.1.clk ≤ ((i + 1 : Nat) : Int)
          have := hd.b4
          omega
        · show TF.1.sent.length ≤ 64 * (i + 1)
          have := t5 hk.sb.2
          have := hd.b5
          omega
        · show TF.1.bat ≤ 8 ∧ TF.1.win ≤ 64
          rw [t2, t3]
          exact hk.sb
      have HYL : Hid (x.fs.length + TF.2.length = (x.fs ++ ys.map FrM.f).length) := hide (by rw [List.length_append, List.length_map, (unhide HH).2.2.2])
      clear hkr hgr HSR HO5 HTA
      go_wp2
      go_meet
      exact ⟨reR x.R fb6 fc6 5, TF.1, fo6, fc6, fb6, x.hs ++ ys.map (fun y => (y.io, y.ic)), x.fs ++ ys.map FrM.f, by (show Value.slice _ _ _ = Value.slice _ (x.fs ++ ys.map FrM.f).length _); rw [← unhide HYL], rfl, HY⟩

end Go.Proofs.YtphkjeeblihfgaaDoor

