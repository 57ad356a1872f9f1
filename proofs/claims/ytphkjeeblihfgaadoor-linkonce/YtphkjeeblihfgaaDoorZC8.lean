import Derived.Test.YtphkjeeblihfgaaDoorZC6
/- LinkOnce: an item more; what was let go was taken. -/
namespace Go.Proofs.YtphkjeeblihfgaaDoor
open Go.RowKit Go.Maps

def sw4 (b : Code) : Code := cB (cE (cB (cE (cB (cE (cB (cE (cB (swO b)))))))))
def cM (b : Code) : Code := cI (cA (cB (cI (cI (cB (cA (cB (cB (cB (cB (cB (cB (cB (cB (cB (cB (cB b)))))))))))))))))
def code45 (b : Code) : Code := cB (cB (cB (cB (cM b))))

set_option maxHeartbeats 40000000 in
set_option maxRecDepth 20000 in
theorem once_item (w wr wA : World) (p m i Z : Nat) (x : OV) (bo : Option Addr) (bc : Nat) (bs : List UInt8) (hi300 : i < 300) (HK : Hid (x.Ok w p m i wr)) (hok : x.Ok w p m (i + 1) wA) (HBS : Hid (BAt w bo bc bs)) (b2 : wA.cell? ⟨Z, 2, none⟩ = some (.slice bo bs.length bc))
    {K : Act → World → Prop} {Q' : Exit → Act → World → Prop} {df : List Deferred} {s0 s1 s2 s3 s4 s5 s6 s7 s8 s9 s10 s11 s12 s14 s15 s17 s18 s19 s21 s22 s23 s24 s25 s26 s27 s28 s29 s30 s31 s32 s33 s34 s35 s36 s37 s38 s39 s40 s41 s42 s43 s44 s45 s46 s47 s48 s49 s50 s51 s52 s53 s54 s55 s56 s57 s58 s59 s60 s61 s62 s63 s64 s65 s66 s67 s68 s69 s70 s71 s72 s73 s74 s75 s76 s77 s78 s79 s80 s81 s82 s83 s84 s85 s86 s87 s88 s89 s90 s91 s92 s93 s94 s95 s96 s97 s98 s99 s100 s101 s102 s103 s104 s105 s106 s107 s108 s109 s110 s111 s112 s113 s114 s115 s116 s117 s118 s119 s120 s121 s122 s123 s124 s125 s126 s127 s128 s129 s130 s131 s132 s133 s134 s135 s136 s137 s138 s139 s140 s141 s142 s143 s144 s145 s146 s147 s148 s149 s150 s151 s152 s153 s154 s155 s156 s157 s158 s159 s160 s161 s162 s163 s164 s165 s166 s167 s168 s169 s170 s171 s172 s173 s174 s175 s176 s177 s178 s179 s180 s181 s182 s183 s184 s185 s186 s187 s188 s189 s190 s192 s193 s194 s195 s196 s197 s198 s199 s200 s201 s202 s203 s204 s205 s206 s207 s208 s209 s210 s211 s212 s213 s214 s215 s216 s217 s218 s219 s220 s221 s222 s223 s224 : Value}
    (hK : ∀ R' io' ic' ib' es' its' tko' tc' tb' tk' (w6 : World) (u193 u194 u195 u196 u197 u198 u199 u200 u201 u202 u203 u204 u205 u206 u207 u208 : Value), Hid (({ x with R := R', io := io', ic := ic', ib := ib', es := es', its := its', tko := tko', tc := tc', tb := tb', tk := tk' } : OV).Ok w p m (i + 1) w6) → K ⟨[s0, s1, s2, s3, s4, s5, s6, s7, s8, s9, s10, s11, s12, (.slice io' its'.length ic'), s14, s15, (.slice tko' tk'.length tc'), s17, s18, s19, .pointer (some ⟨Z, 0, none⟩), s21, s22, s23, s24, s25, s26, s27, s28, s29, s30, s31, s32, s33, s34, s35, s36, s37, s38, s39, s40, s41, s42, s43, s44, s45, s46, s47, s48, s49, s50, s51, s52, s53, s54, s55, s56, s57, s58, s59, s60, s61, s62, s63, s64, s65, s66, s67, s68, s69, s70, s71, s72, s73, s74, s75, s76, s77, s78, s79, s80, s81, s82, s83, s84, s85, s86, s87, s88, s89, s90, s91, s92, s93, s94, s95, s96, s97, s98, s99, s100, s101, s102, s103, s104, s105, s106, s107, s108, s109, s110, s111, s112, s113, s114, s115, s116, s117, s118, s119, s120, s121, s122, s123, s124, s125, s126, s127, s128, s129, s130, s131, s132, s133, s134, s135, s136, s137, s138, s139, s140, s141, s142, s143, s144, s145, s146, s147, s148, s149, s150, s151, s152, s153, s154, s155, s156, s157, s158, s159, s160, s161, s162, s163, s164, s165, s166, s167, s168, s169, s170, s171, s172, s173, s174, s175, s176, s177, s178, s179, s180, s181, s182, s183, s184, s185, s186, s187, s188, s189, s190, .bool true, s192, u193, u194, u195, u196, u197, u198, u199, u200, u201, u202, u203, u204, u205, u206, u207, u208, s209, s210, s211, s212, s213, s214, s215, s216, s217, s218, s219, s220, s221, s222, s223, s224].toArray, df⟩ w6) :
    (sw4 ((Tryd.f6.body).getD .skip)).wp Tryd.prog (Exit.then K Q') ⟨[s0, s1, s2, s3, s4, s5, s6, s7, s8, s9, s10, s11, s12, .slice x.io x.its.length x.ic, s14, s15, .slice x.tko x.tk.length x.tc, s17, s18, s19, .pointer (some ⟨Z, 0, none⟩), s21, s22, s23, s24, s25, s26, s27, s28, s29, s30, s31, s32, s33, s34, s35, s36, s37, s38, s39, s40, s41, s42, s43, s44, s45, s46, s47, s48, s49, s50, s51, s52, s53, s54, s55, s56, s57, s58, s59, s60, s61, s62, s63, s64, s65, s66, s67, s68, s69, s70, s71, s72, s73, s74, s75, s76, s77, s78, s79, s80, s81, s82, s83, s84, s85, s86, s87, s88, s89, s90, s91, s92, s93, s94, s95, s96, s97, s98, s99, s100, s101, s102, s103, s104, s105, s106, s107, s108, s109, s110, s111, s112, s113, s114, s115, s116, s117, s118, s119, s120, s121, s122, s123, s124, s125, s126, s127, s128, s129, s130, s131, s132, s133, s134, s135, s136, s137, s138, s139, s140, s141, s142, s143, s144, s145, s146, s147, s148, s149, s150, s151, s152, s153, s154, s155, s156, s157, s158, s159, s160, s161, s162, s163, s164, s165, s166, s167, s168, s169, s170, s171, s172, s173, s174, s175, s176, s177, s178, s179, s180, s181, s182, s183, s184, s185, s186, s187, s188, s189, s190, .bool true, s192, s193, s194, s195, s196, s197, s198, s199, s200, s201, s202, s203, s204, s205, s206, s207, s208, s209, s210, s211, s212, s213, s214, s215, s216, s217, s218, s219, s220, s221, s222, s223, s224].toArray, df⟩ wA := by
  have HKK := hide hK
  have hi3J : (i : Int) < 300 := by omega
  clear hK
  dsimp only [sw4, swO, cA, cB, cI, cT, cE, Tryd.f6, Option.getD]
  go_cut [13, 16] from 193 to 208 (fun v13 v16 wc => ∃ R' io' ic' ib' es' its' tko' tc' tb' tk', v13 = .slice io' its'.length ic' ∧ v16 = .slice tko' tk'.length tc' ∧ Hid (({ x with R := R', io := io', ic := ic', ib := ib', es := es', its := its', tko := tko', tc := tc', tb := tb', tk := tk' } : OV).Ok w p m (i + 1) wc))
  case rest =>
    obtain ⟨R', io', ic', ib', es', its', tko', tc', tb', tk', rfl, rfl, HY⟩ := hcut
    exact unhide HKK R' io' ic' ib' es' its' tko' tc' tb' tk' _ _ _ _ _ _ _ _ _ _ _ _ _ _ _ _ _ HY
  case first =>
    clear HKK
    have hbl : (bs.length : Int) ≤ 140737488355328 := by have := (unhide HBS).2.2; omega
    by_cases hl : bs.length ≤ 256
    · have hd : decide ((bs.length : Int) ≤ 256) = true := decide_eq_true (by omega)
      have hd2 : decide (bs.length ≤ 256) = true := decide_eq_true hl
      have hb1 := (unhide HK).b1
      have hil2 : x.its.length ≤ 299 := by omega
      have htl := (unhide HK).li.tkl
      obtain ⟨infoI, hii, hzi⟩ := Option.map_eq_some_iff.1 infoIt
      simp only [Prod.mk.injEq] at hzi
      have HII := hide (And.intro hii hzi)
      obtain ⟨infoB2, hib, hzb⟩ := Option.map_eq_some_iff.1 infoBo
      simp only [Prod.mk.injEq] at hzb
      have HIB := hide (And.intro hib hzb)
      have hilI : (x.its.length : Int) ≤ 299 := by omega
      have HA1 := hide (hok.os.keep ((Fr.refl (fun _ => False) _).alloc (.cells #[.int .i64 ((x.its.length : Int) + 1), .slice bo bs.length bc] 47)))
      have HSR := hide (src_one (P := Tryd.prog) wA [.int .i64 ((x.its.length : Int) + 1), .slice bo bs.length bc] 40 47 2 Tryd.underlying40 rfl (fun u hu => by simp only [List.mem_cons, List.not_mem_nil, or_false] at hu; rcases hu with rfl | rfl <;> rfl) (W := wA.alloc (.cells #[.int .i64 ((x.its.length : Int) + 1), .slice bo bs.length bc] 47)) (fun j => by rw [World.cell?_alloc_new]; simp))
      have HIL := hide (itsC_length 1 x.es x.its hok.os.el)
      have HTL := hide htl
      have HOK := hide hok
      have HI299 := hide hil2
      clear hii hzi hib hzb hb1 htl hok hl hil2
      go_wp2_with (at_builtin; refine wpList_append_krow _ rfl (.tmp 197) (.tmp 204) 40 40 rfl 47 infoI _ 2 (by omega) Tryd.underlying40 (unhide HII).1 (unhide HII).2.1 rfl (unhide HII).2.2.1 rfl (unhide HA1).ir (unhide HIL) _ _ 1 rfl (unhide HSR) (by rw [(unhide HII).2.2.2]; have := unhide HI299; omega) (by have := unhide HI299; omega) ?_)
      intro io5 ic5 w5 ib5 hkr hgr
      have hcell : itC (1 + x.its.length) (bo, bc) bs = [.int .i64 ((x.its.length : Int) + 1), .slice bo bs.length bc] := by
        simp only [itC]
        congr 2
        omega
      have HO5 := hide (OS.item (unhide HA1) (e := (bo, bc)) (b := bs) (unhide HBS) (by rw [hcell]; exact hkr) hgr)
      clear hkr hgr HSR HA1 hcell b2
      have HA2 := hide ((unhide HO5).keep ((Fr.refl (fun _ => False) _).alloc (.cells #[.bool false] 4)))
      have HSR2 := hide (src_one (P := Tryd.prog) w5 [.bool false] 61 4 1 Tryd.underlying61 rfl (fun u hu => by simp only [List.mem_cons, List.not_mem_nil, or_false] at hu; subst hu; rfl) (W := w5.alloc (.cells #[.bool false] 4)) (fun j => by rw [World.cell?_alloc_new]; simp))
      go_wp2_with (at_builtin; refine wpList_append_krow _ rfl (.tmp 206) (.tmp 207) 61 61 rfl 4 infoB2 _ 1 (by omega) Tryd.underlying61 (unhide HIB).1 (unhide HIB).2.1 rfl (unhide HIB).2.2.1 rfl (unhide HA2).tr (by rw [List.length_map]; omega) _ _ 1 rfl (unhide HSR2) (by rw [(unhide HIB).2.2.2]; have := unhide HI299; have := unhide HTL; omega) (by have := unhide HI299; have := unhide HTL; omega) ?_)
      intro to6 tc6 w6 tb6 hkr hgr
      have HO6 := hide ((unhide HA2).place hkr hgr)
      clear hkr hgr HSR2 HA2 HO5
      have HY : Hid (({ x with R := reR (reR x.R ib5 ic5 4) tb6 tc6 7, io := io5, ic := ic5, ib := ib5, es := x.es ++ [(bo, bc)], its := x.its ++ [bs], tko := to6, tc := tc6, tb := tb6, tk := x.tk ++ [false] } : OV).Ok w p m (i + 1) w6) := by
        have hk := unhide HOK
        have hd := unhide HK
        refine hide ⟨unhide HO6, hk.li.item (by have := unhide HI299; omega) bs (by have := of_decide_eq_true hd2; omega), ?_, hk.b2, hk.b3, hk.b4, hk.b5, hk.sb⟩
        have := hd.b1
        show (x.its ++ [bs]).length ≤ i + 1
        simp
        omega
      go_wp2
      go_meet
      exact ⟨reR (reR x.R ib5 ic5 4) tb6 tc6 7, io5, ic5, ib5, x.es ++ [(bo, bc)], x.its ++ [bs], to6, tc6, tb6, x.tk ++ [false], by rw [List.length_append]; rfl, by rw [List.length_append]; rfl, HY⟩
    · have hd : decide ((bs.length : Int) ≤ 256) = false := decide_eq_false (by omega)
      have hd2 : decide (bs.length ≤ 256) = false := decide_eq_false hl
      clear hl
      go_wp2
      go_meet
      exact ⟨x.R, x.io, x.ic, x.ib, x.es, x.its, x.tko, x.tc, x.tb, x.tk, rfl, rfl, hide hok⟩


set_option maxHeartbeats 40000000 in
set_option maxRecDepth 20000 in
theorem once_gone (w wc : World) (p m i : Nat) (y : OV) (HY : Hid (y.Ok w p m (i + 1) wc))
    {K : Act → World → Prop} {Q' : Exit → Act → World → Prop} {df : List Deferred} {s0 s1 s2 s3 s4 s5 s6 s7 s8 s9 s10 s11 s12 s13 s14 s15 s18 s19 s20 s21 s22 s23 s24 s25 s26 s28 s29 s30 s31 s32 s33 s34 s35 s36 s37 s38 s39 s40 s41 s42 s43 s44 s45 s46 s47 s48 s49 s50 s51 s52 s53 s54 s55 s56 s57 s58 s59 s60 s61 s62 s63 s64 s65 s66 s67 s68 s69 s70 s71 s72 s73 s74 s75 s76 s77 s78 s79 s80 s81 s82 s83 s84 s85 s86 s87 s88 s89 s90 s91 s92 s93 s94 s95 s96 s97 s98 s99 s100 s101 s102 s103 s104 s105 s106 s107 s108 s109 s110 s111 s112 s113 s114 s115 s116 s117 s118 s119 s120 s121 s122 s123 s124 s125 s126 s127 s128 s129 s130 s131 s132 s133 s134 s135 s136 s137 s138 s139 s140 s141 s142 s143 s144 s145 s146 s147 s148 s149 s150 s151 s152 s153 s154 s155 s156 s157 s158 s159 s160 s161 s162 s163 s164 s165 s166 s167 s168 s169 s170 s171 s172 s173 s174 s175 s176 s177 s178 s179 s180 s181 s182 s183 s184 s185 s186 s187 s188 s189 s190 s191 s192 s193 s194 s195 s196 s197 s198 s199 s200 s201 s202 s203 s204 s205 s206 s207 s208 s209 s210 s211 s212 s213 s214 s215 s216 s217 s218 s219 s220 s221 s222 s223 s224 : Value}
    (hK : ∀ (u8 u27 u209 u210 u211 u212 u213 u214 u215 u216 u217 u218 u219 u220 u221 u222 u223 u224 : Value), K ⟨[s0, s1, s2, s3, s4, s5, s6, s7, u8, s9, s10, s11, s12, s13, s14, s15, .slice y.tko y.tk.length y.tc, .int .i64 (y.g : Int), s18, s19, s20, s21, s22, s23, s24, s25, s26, u27, s28, s29, s30, s31, s32, s33, s34, s35, s36, s37, s38, s39, s40, s41, s42, s43, s44, s45, s46, s47, s48, s49, s50, s51, s52, s53, s54, s55, s56, s57, s58, s59, s60, s61, s62, s63, s64, s65, s66, s67, s68, s69, s70, s71, s72, s73, s74, s75, s76, s77, s78, s79, s80, s81, s82, s83, s84, s85, s86, s87, s88, s89, s90, s91, s92, s93, s94, s95, s96, s97, s98, s99, s100, s101, s102, s103, s104, s105, s106, s107, s108, s109, s110, s111, s112, s113, s114, s115, s116, s117, s118, s119, s120, s121, s122, s123, s124, s125, s126, s127, s128, s129, s130, s131, s132, s133, s134, s135, s136, s137, s138, s139, s140, s141, s142, s143, s144, s145, s146, s147, s148, s149, s150, s151, s152, s153, s154, s155, s156, s157, s158, s159, s160, s161, s162, s163, s164, s165, s166, s167, s168, s169, s170, s171, s172, s173, s174, s175, s176, s177, s178, s179, s180, s181, s182, s183, s184, s185, s186, s187, s188, s189, s190, s191, s192, s193, s194, s195, s196, s197, s198, s199, s200, s201, s202, s203, s204, s205, s206, s207, s208, u209, u210, u211, u212, u213, u214, u215, u216, u217, u218, u219, u220, u221, u222, u223, u224].toArray, df⟩ wc) :
    (code45 ((Tryd.f6.body).getD .skip)).wp Tryd.prog (Exit.then K Q') ⟨[s0, s1, s2, s3, s4, s5, s6, s7, s8, s9, s10, s11, s12, s13, s14, s15, .slice y.tko y.tk.length y.tc, .int .i64 (y.g : Int), s18, s19, s20, s21, s22, s23, s24, s25, s26, .int .i64 1, s28, s29, s30, s31, s32, s33, s34, s35, s36, s37, s38, s39, s40, s41, s42, s43, s44, s45, s46, s47, s48, s49, s50, s51, s52, s53, s54, s55, s56, s57, s58, s59, s60, s61, s62, s63, s64, s65, s66, s67, s68, s69, s70, s71, s72, s73, s74, s75, s76, s77, s78, s79, s80, s81, s82, s83, s84, s85, s86, s87, s88, s89, s90, s91, s92, s93, s94, s95, s96, s97, s98, s99, s100, s101, s102, s103, s104, s105, s106, s107, s108, s109, s110, s111, s112, s113, s114, s115, s116, s117, s118, s119, s120, s121, s122, s123, s124, s125, s126, s127, s128, s129, s130, s131, s132, s133, s134, s135, s136, s137, s138, s139, s140, s141, s142, s143, s144, s145, s146, s147, s148, s149, s150, s151, s152, s153, s154, s155, s156, s157, s158, s159, s160, s161, s162, s163, s164, s165, s166, s167, s168, s169, s170, s171, s172, s173, s174, s175, s176, s177, s178, s179, s180, s181, s182, s183, s184, s185, s186, s187, s188, s189, s190, s191, s192, s193, s194, s195, s196, s197, s198, s199, s200, s201, s202, s203, s204, s205, s206, s207, s208, s209, s210, s211, s212, s213, s214, s215, s216, s217, s218, s219, s220, s221, s222, s223, s224].toArray, df⟩ wc := by
  have HKK := hide hK
  clear hK
  dsimp only [code45, cM, cA, cB, cI, cT, cE, Tryd.f6, Option.getD]
  go_cut [] from 209 to 224 (fun wx => Hid (wx = wc))
  case rest =>
    rename World => wz
    obtain rfl := unhide hcut
    exact unhide HKK _ _ _ _ _ _ _ _ _ _ _ _ _ _ _ _ _ _
  case first =>
    clear HKK
    have htl := (unhide HY).li.tkl
    have hgn := (unhide HY).li.gn.1
    have hfw := (unhide HY).li.few
    have hgI : (y.g : Int) ≤ 300 := by omega
    have htI : (y.tk.length : Int) ≤ 301 := by omega
    have HTL := hide htl
    clear htl
    go_wp2
    go_loopw [27] (fun iv wx => ∃ (k : Nat), 1 ≤ k ∧ k ≤ y.g + 1 ∧ iv = .int .i64 k ∧ Hid (wx = wc)) (fun iv _ => y.g + 1 - (intOf iv).toNat)
    case atStart => exact ⟨1, Nat.le_refl _, by omega, rfl, hide rfl⟩
    case round =>
      obtain ⟨k, hk1, hk2, rfl, HKW⟩ := hrel
      have hwc := unhide HKW
      subst hwc
      by_cases hkg : k ≤ y.g
      · have htl := unhide HTL
        have hd : decide ((k : Int) ≤ (y.g : Int)) = true := by simp; omega
        have hd2 : decide ((k : Int) ≥ (y.tk.length : Int)) = false := by simp; omega
        have hd3 : decide ((y.tk.length : Int) ≤ (k : Int)) = false := by simp; omega
        have hkI : (k : Int) < (y.tk.length : Int) := by omega
        have ht := (unhide HY).li.gn.2 k hk1 (by omega)
        have hrow := (unhide HY).os.tr
        have hko : y.tko = some ⟨y.tb, 0, none⟩ := hrow.ad (by have := hrow.le; rw [List.length_map] at this; omega)
        have hck : wr.cell? ⟨y.tb, k, none⟩ = some (.bool true) := by
          have hl : k < (y.tk.map Value.bool).length := by rw [List.length_map]; omega
          rw [hrow.cells k hl, List.getElem_map]
          rw [List.getElem?_eq_getElem (by omega)] at ht
          injection ht with ht
          rw [ht]
        clear hrow ht htl
        go_wp2
        exact ⟨⟨k + 1, by omega, by omega, by omega⟩, by simp [intOf]; omega⟩
      · have hd : decide ((k : Int) ≤ (y.g : Int)) = false := by simp; omega
        go_wp2
        go_meet
        exact hide rfl

end Go.Proofs.YtphkjeeblihfgaaDoor

