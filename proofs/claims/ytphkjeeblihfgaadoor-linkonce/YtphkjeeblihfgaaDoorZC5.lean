import Derived.Test.YtphkjeeblihfgaaDoorZCH
/- LinkOnce: its walk. -/
namespace Go.Proofs.YtphkjeeblihfgaaDoor
open Go.RowKit Go.Maps

theorem infoBo : (Tryd.prog.info? 4).map (fun i => (i.zero, i.size, i.bytes)) = some (some (.bool false), 1, 1) := by kernel_rfl

theorem made_bool : madeCells #[.bool false] 1 = #[.bool false] := by
  apply Array.ext
  · simp [madeCells]
  · intro j h1 h2
    have : j = 0 := by simp at h2; omega
    subst this
    simp [madeCells]
/-- The beginning. -/
theorem ov_begin {w w3 : World} {p m : Nat} {s : Snd} {q : Nat} (hfr : Fr (fun _ => False) w w3) (hs : SN w3 p m s) (hr : RV w3 q 0) (h0 : w.heap.size ≤ p ∧ w.heap.size ≤ m ∧ w.heap.size ≤ q) (hpm : p ≠ q ∧ m ≠ q) (hc : s.clk = 0) (he : s.sent = []) (hb : s.bat ≤ 8 ∧ s.win ≤ 64) :
    (⟨fun k => if k = p then 1 else if k = m then 2 else if k = q then 3 else if k = w3.heap.size then 7 else 0, q, s, 0, none, 0, 0, [], [], none, 0, 0, [], [], none, 0, 0, [], some ⟨w3.heap.size, 0, none⟩, 1, w3.heap.size, [false], 0, 0⟩ : OV).Ok w p m 0 (w3.alloc (.cells #[.bool false] 4)) := by
  have hk : Fr (fun _ => False) w3 (w3.alloc (.cells #[.bool false] 4)) := (Fr.refl _ _).alloc _
  have hp := hs.bx.lt
  have hm := hs.mp.lt
  have hq := hr.lt
  have hne := hs.ne
  have hsz := heap_alloc w3 (.cells #[.bool false] 4)
  have hz := hfr.size
  have hbx := Bx.new w3 #[.bool false] 4
  refine ⟨⟨hfr.trans hk (fun _ _ t => t), fun k hk => ?_, fun k hk => ?_, hs.frame hk (fun t => t) (fun t => t), if_pos rfl, ?_, Bx.keep hr hk, ?_, KRow.nil _ _ _, fun h => absurd h (Nat.lt_irrefl 0), rfl, fun i h => absurd h (by simp), KRow.nil _ _ _, fun h => absurd h (Nat.lt_irrefl 0), rfl, fun u hu i h => absurd h (by simp), KRow.nil _ _ _, fun h => absurd h (Nat.lt_irrefl 0), ?_, fun _ => ?_⟩, LI.begin, by simp, by simp, by simp, by rw [hc]; simp, by rw [he]; simp, hb⟩
  · show (if k = p then 1 else if k = m then 2 else if k = q then 3 else if k = w3.heap.size then 7 else 0) = 0
    rw [if_neg (by omega), if_neg (by omega), if_neg (by omega), if_neg (by omega)]
  · rw [hsz] at hk
    show (if k = p then 1 else if k = m then 2 else if k = q then 3 else if k = w3.heap.size then 7 else 0) = 0
    rw [if_neg (by omega), if_neg (by omega), if_neg (by omega), if_neg (by omega)]
  · show (if m = p then 1 else if m = m then 2 else if m = q then 3 else if m = w3.heap.size then 7 else 0) = 2
    rw [if_neg (fun t => hne t.symm), if_pos rfl]
  · show (if q = p then 1 else if q = m then 2 else if q = q then 3 else if q = w3.heap.size then 7 else 0) = 3
    rw [if_neg (fun t => hpm.1 t.symm), if_neg (fun t => hpm.2 t.symm), if_pos rfl]
  · refine ⟨by simp, by simp only [maxLen]; omega, fun _ => rfl, fun j hj => ⟨?_, hbx.frozen j⟩, fun j hj => ?_, fun u hu => by simp at hu; subst hu; rfl⟩
    · have hj : j < 1 * 1 := hj
      have : j = 0 := by omega
      subst this
      rw [hbx.cell 0]; rfl
    · have : j = 0 := by simp at hj; omega
      subst this
      exact hbx.cell 0
  · show (if w3.heap.size = p then 1 else if w3.heap.size = m then 2 else if w3.heap.size = q then 3 else if w3.heap.size = w3.heap.size then 7 else 0) = 7
    rw [if_neg (by omega), if_neg (by omega), if_neg (by omega), if_pos rfl]

/-- Parts of code. -/
def cA : Code → Code
  | .seq a _ => a
  | c => c
def cB : Code → Code
  | .seq _ b => b
  | c => c
def cI : Code → Code
  | .block _ b => b
  | .loop b => b
  | c => c
def cT : Code → Code
  | .cond _ a _ => a
  | c => c
def cE : Code → Code
  | .cond _ _ b => b
  | c => c
def swO (b : Code) : Code := cI (cB (cA (cB (cB (cI (cA (cB (cI (cI (cB (cA (cB (cB (cB (cB (cB (cB (cB (cB (cB (cB (cB b))))))))))))))))))))))
def code19 (b : Code) : Code := cT (cB (swO b))
def code27 (b : Code) : Code := cA (cA (cB (cI (cA (cB (cI (cI (cB (cA (cB (cB (cT (cB (cE (cB (swO b))))))))))))))))

theorem wp_then {P : Program} {c : Code} {a : Act} {w : World} {Q : Exit → Act → World → Prop} (h : c.wp P (Exit.then (fun a w => Q .normal a w) Q) a w) : c.wp P Q a w := by
  refine wp_mono h ?_
  intro e a' w' hq
  cases e <;> exact hq

set_option maxHeartbeats 40000000 in
set_option maxRecDepth 20000 in
theorem once_r27 (wB : World) (Zx ib QN il ic g l : Nat) (S : Int) (ao ao2 : Option Addr) (cap cap2 : Nat) (D : List UInt8) (HS : Hid (∀ u, Fr (fun _ => False) wB u → u.cell? ⟨Zx, 0, none⟩ = some (.int .i64 S) ∧ u.cell? ⟨Zx, 1, none⟩ = some (.slice ao D.length cap) ∧ u.cell? ⟨ib, QN * 2 + 1, none⟩ = some (.slice ao2 D.length cap2) ∧ (convert 34 9 (.slice ao D.length cap)).run Tryd.prog u = .ok (.string ⟨D.toArray⟩) u ∧ (convert 34 9 (.slice ao2 D.length cap2)).run Tryd.prog u = .ok (.string ⟨D.toArray⟩) u))
    (hwr : IntKind.i64.wrap (S - 1) = (QN : Int)) (hQ0 : (0 : Int) ≤ (QN : Int)) (hQI : (QN : Int) < (il : Int)) (hq1 : decide (S ≤ (l : Int)) = false) (hq2 : decide (S > (il : Int)) = false) (hl3 : (l : Int) ≤ 300)
    (hcase : (decide ((l : Int) > 0) = false ∧ decide (0 < (l : Int)) = false ∧ decide (0 < l) = false) ∨ (decide ((l : Int) > 0) = true ∧ decide (0 < (l : Int)) = true ∧ decide (0 < l) = true ∧ decide (S > (l : Int) + 1) = false ∧ decide ((l : Int) + 1 < S) = false) ∨ (decide ((l : Int) > 0) = true ∧ decide (0 < (l : Int)) = true ∧ decide (0 < l) = true ∧ decide (S > (l : Int) + 1) = true ∧ decide ((l : Int) + 1 < S) = true ∧ decide ((QN : Int) > (g : Int)) = false ∧ decide ((g : Int) < (QN : Int)) = false ∧ decide (g < QN) = false))
    {K : Act → World → Prop} {Q' : Exit → Act → World → Prop} {df : List Deferred} {s0 s1 s2 s3 s4 s5 s6 s7 s8 s9 s10 s11 s12 s14 s15 s16 s19 s20 s21 s22 s23 s25 s26 s27 s28 s29 s30 s31 s32 s33 s34 s35 s36 s37 s38 s39 s40 s41 s42 s43 s44 s45 s46 s47 s48 s49 s50 s51 s52 s53 s54 s55 s56 s57 s58 s59 s60 s61 s62 s63 s64 s65 s66 s67 s68 s69 s70 s71 s72 s73 s74 s75 s76 s77 s78 s79 s80 s81 s82 s83 s84 s85 s86 s87 s88 s89 s90 s91 s92 s93 s94 s95 s96 s97 s98 s99 s100 s101 s102 s103 s104 s105 s106 s107 s108 s109 s110 s111 s112 s113 s114 s115 s116 s117 s118 s119 s120 s121 s122 s123 s124 s125 s126 s127 s128 s129 s130 s131 s132 s133 s134 s135 s136 s137 s138 s139 s140 s141 s142 s143 s144 s145 s146 s147 s148 s149 s150 s151 s152 s153 s154 s155 s156 s157 s158 s159 s160 s161 s162 s163 s164 s165 s166 s167 s168 s169 s170 s171 s172 s173 s174 s175 s176 s177 s178 s179 s180 s181 s182 s183 s184 s185 s186 s187 s188 s189 s190 s191 s192 s193 s194 s195 s196 s197 s198 s199 s200 s201 s202 s203 s204 s205 s206 s207 s208 s209 s210 s211 s212 s213 s214 s215 s216 s217 s218 s219 s220 s221 s222 s223 s224 : Value}
    (hK : ∀ (n : Nat) (u110 u111 u112 u113 u114 u115 u116 u117 u118 u119 u120 u121 u122 u123 u124 u125 u126 u127 u128 u129 u130 u131 u132 u133 u134 u135 u136 u137 u138 u139 u140 u141 u142 u143 u144 u145 u146 u147 u148 u149 u150 u151 : Value), K ⟨[s0, s1, s2, s3, s4, s5, s6, s7, s8, s9, s10, s11, s12, .slice (some ⟨ib, 0, none⟩) il ic, s14, s15, s16, .int .i64 (g : Int), .int .i64 (l : Int), s19, s20, s21, s22, s23, .pointer (some ⟨Zx, 0, none⟩), s25, s26, s27, s28, s29, s30, s31, s32, s33, s34, s35, s36, s37, s38, s39, s40, s41, s42, s43, s44, s45, s46, s47, s48, s49, s50, s51, s52, s53, s54, s55, s56, s57, s58, s59, s60, s61, s62, s63, s64, s65, s66, s67, s68, s69, s70, s71, s72, s73, s74, s75, s76, s77, s78, s79, s80, s81, s82, s83, s84, s85, s86, s87, s88, s89, s90, s91, s92, s93, s94, s95, s96, s97, s98, s99, s100, s101, s102, s103, s104, s105, s106, s107, s108, s109, u110, u111, u112, u113, u114, u115, u116, u117, u118, u119, u120, u121, u122, u123, u124, u125, u126, u127, u128, u129, u130, u131, u132, u133, u134, u135, u136, u137, u138, u139, u140, u141, u142, u143, u144, u145, u146, u147, u148, u149, u150, u151, .bool false, s153, s154, s155, s156, s157, s158, s159, s160, s161, s162, s163, s164, s165, s166, s167, s168, s169, s170, s171, s172, s173, s174, s175, s176, s177, s178, s179, s180, s181, s182, s183, s184, s185, s186, s187, s188, s189, s190, s191, s192, s193, s194, s195, s196, s197, s198, s199, s200, s201, s202, s203, s204, s205, s206, s207, s208, s209, s210, s211, s212, s213, s214, s215, s216, s217, s218, s219, s220, s221, s222, s223, s224].toArray, df⟩ (wB.drewN n)) :
    (code27 ((Tryd.f6.body).getD .skip)).wp Tryd.prog (Exit.then K Q') ⟨[s0, s1, s2, s3, s4, s5, s6, s7, s8, s9, s10, s11, s12, .slice (some ⟨ib, 0, none⟩) il ic, s14, s15, s16, .int .i64 (g : Int), .int .i64 (l : Int), s19, s20, s21, s22, s23, .pointer (some ⟨Zx, 0, none⟩), s25, s26, s27, s28, s29, s30, s31, s32, s33, s34, s35, s36, s37, s38, s39, s40, s41, s42, s43, s44, s45, s46, s47, s48, s49, s50, s51, s52, s53, s54, s55, s56, s57, s58, s59, s60, s61, s62, s63, s64, s65, s66, s67, s68, s69, s70, s71, s72, s73, s74, s75, s76, s77, s78, s79, s80, s81, s82, s83, s84, s85, s86, s87, s88, s89, s90, s91, s92, s93, s94, s95, s96, s97, s98, s99, s100, s101, s102, s103, s104, s105, s106, s107, s108, s109, s110, s111, s112, s113, s114, s115, s116, s117, s118, s119, s120, s121, s122, s123, s124, s125, s126, s127, s128, s129, s130, s131, s132, s133, s134, s135, s136, s137, s138, s139, s140, s141, s142, s143, s144, s145, s146, s147, s148, s149, s150, s151, s152, s153, s154, s155, s156, s157, s158, s159, s160, s161, s162, s163, s164, s165, s166, s167, s168, s169, s170, s171, s172, s173, s174, s175, s176, s177, s178, s179, s180, s181, s182, s183, s184, s185, s186, s187, s188, s189, s190, s191, s192, s193, s194, s195, s196, s197, s198, s199, s200, s201, s202, s203, s204, s205, s206, s207, s208, s209, s210, s211, s212, s213, s214, s215, s216, s217, s218, s219, s220, s221, s222, s223, s224].toArray, df⟩ wB := by
  have HK := hide hK
  clear hK
  dsimp only [code27, swO, cA, cB, cI, cT, cE, Tryd.f6, Option.getD]
  go_cut [152] from 110 to 152 (fun v152 wc => v152 = .bool false ∧ Hid (∃ n, wc = wB.drewN n))
  case first =>
    clear HK
    rcases hcase with ⟨m1, m2, m3⟩ | ⟨m1, m2, m3, m4, m5⟩ | ⟨m1, m2, m3, m4, m5, m8, m10, m11⟩
    all_goals
      obtain ⟨v1, v2, v3, _, _⟩ := unhide HS wB (Fr.refl _ _)
      have v4 := fun n => (unhide HS (wB.drewN n) ((Fr.refl _ _).drewN n)).2.2.2.1
      have v5 := fun n => (unhide HS (wB.drewN n) ((Fr.refl _ _).drewN n)).2.2.2.2
      go_quiet (fail)
      go_wp2
      go_meet
      exact ⟨rfl, hide ⟨_, rfl⟩⟩
  case rest =>
    obtain ⟨rfl, HN⟩ := hcut
    obtain ⟨n, rfl⟩ := unhide HN
    exact unhide HK n _ _ _ _ _ _ _ _ _ _ _ _ _ _ _ _ _ _ _ _ _ _ _ _ _ _ _ _ _ _ _ _ _ _ _ _ _ _ _ _ _ _

end Go.Proofs.YtphkjeeblihfgaaDoor

