import Derived.Test.YtphkjeeblihfgaaDoorZCA
/- LinkOnce: its walk. -/
namespace Go.Proofs.YtphkjeeblihfgaaDoor
open Go.RowKit Go.Maps

set_option maxHeartbeats 40000000 in
set_option maxRecDepth 20000 in
theorem once_walk (w : World) (hT : TabP w) (n0 n1 n2 : Int) (so : Option Addr) (sc : Nat) (xs : List StA) (hS : StsAt w so xs) :
    Calls Tryd.prog 6 #[.int .i64 n0, .int .i64 n1, .int .i64 n2, .slice so xs.length sc] w fun e w' => e = .returned (.bool true) ∧ Fr (fun _ => False) w w' := by
  have HT := hide hT
  have HS := hide hS
  have hsm := hS.small
  have hsI : (xs.length : Int) ≤ 140737488355328 := by omega
  have hmk : ∀ u : World, (Instr.makeSlice 61 (.int .i64 1) (.int .i64 1)).run Tryd.prog u = .ok (.slice (some ⟨u.heap.size, 0, none⟩) 1 1) (u.alloc (.cells #[.bool false] 4)) := by
    intro u
    obtain ⟨i0, hi, hz0, hz1, hz2⟩ := info_parts infoBo
    have := run_make (P := Tryd.prog) u 61 4 i0 (.bool false) Tryd.underlying61 hi hz0 .i64 .i64 1 1 (by omega) (by omega) (by rw [hz2]; omega) (by omega)
    have e : madeCells (Value.bool false).cells (Int.toNat 1 * i0.size) = #[.bool false] := by rw [hz1]; exact made_bool
    rw [e] at this
    exact this
  have ha0 : bits .and .i64 n0 31 = n0 % 32 := i64_and31 n0
  have ha1 : bits .and .i64 n1 7 = n1 % 8 := i64_and7Z n1
  have ha2 : bits .and .i64 n2 7 = n2 % 8 := i64_and7Z n2
  obtain ⟨k0, hk0⟩ : ∃ k0 : Nat, n0 % 32 = (k0 : Int) := ⟨(n0 % 32).toNat, by omega⟩
  obtain ⟨k1, hk1⟩ : ∃ k1 : Nat, n1 % 8 = (k1 : Int) := ⟨(n1 % 8).toNat, by omega⟩
  obtain ⟨k2, hk2⟩ : ∃ k2 : Nat, n2 % 8 = (k2 : Int) := ⟨(n2 % 8).toNat, by omega⟩
  have hl0 : k0 < 32 := by omega
  have hl1 : k1 < 8 := by omega
  have hl2 : k2 < 8 := by omega
  rw [hk0] at ha0
  rw [hk1] at ha1
  rw [hk2] at ha2
  clear hT hS hsm hk0 hk1 hk2
  go_enter Tryd.func6, Tryd.ntmps6
  go_wp2_with fail
  refine (awakeL_any w (unhide HT)).mono ?_
  rintro e w1 ⟨rfl, h1⟩
  go_wp2_with fail
  refine (newsender_ok w1 (a := 1 + (k0 : Int)) (b := 1 + (k1 : Int)) (c := 1 + (k2 : Int)) (by unfold sndOk; omega)).mono ?_
  rintro e w2 ⟨p, m, rfl, h2, h3, h4, h5⟩
  have HS2 := hide (And.intro h2 (And.intro ((unhide h1).trans h3 (fun _ _ t => t)) (And.intro h4 (And.intro h5 (unhide h1).size))))
  clear h1 h2 h3 h4 h5
  go_wp2_with fail
  refine (newreceiver_any w2).mono ?_
  rintro e w3 ⟨rfl, h1, h2⟩
  have HX : Hid (∃ x : OV, x.v12 = .pointer (some ⟨w2.heap.size, 0, none⟩) ∧ x.v13 = .slice none 0 0 ∧ x.v14 = .slice none 0 0 ∧ x.v15 = .slice none 0 0 ∧ x.v16 = .slice (some ⟨w3.heap.size, 0, none⟩) 1 1 ∧ x.g = 0 ∧ x.l = 0 ∧ x.Ok w p m 0 (w3.alloc (.cells #[.bool false] 4))) := by
    obtain ⟨a1, a2, a3, a4, a5⟩ := unhide HS2
    have hk : Fr (fun _ => False) w2 w3 := by rw [h2]; exact (Fr.refl _ _).alloc _
    have b1 := a1.bx.lt
    have b2 := a1.mp.lt
    have b3 := a2.size
    exact hide ⟨_, rfl, rfl, rfl, rfl, rfl, rfl, rfl, ov_begin (a2.trans hk (fun _ _ t => t)) (a1.frame hk (fun t => t) (fun t => t)) h1 (by omega) (by omega) rfl rfl ⟨by show 1 + (k1 : Int) ≤ 8; omega, by show 1 + (k0 : Int) ≤ 64; omega⟩⟩
  clear h1 h2 HS2
  go_upto_block 0 with (fail)
  clear hmk ha0 ha1 ha2
  generalize w3.alloc (.cells #[.bool false] 4) = w4 at *
  generalize w2.heap.size = q0 at *
  generalize w3.heap.size = t0 at *
  refine once_loop w w4 p m so sc xs hsI HS HX ?_
  intro w' u8 u12 u13 u14 u15 u16 u17 u18 u19 u20 u21 u22 u23 u24 u25 u26 u27 u58 u59 u60 u61 u62 u63 u64 u65 u66 u67 u68 u69 u70 u71 u72 u73 u74 u75 u76 u77 u78 u79 u80 u81 u82 u83 u84 u85 u86 u87 u88 u89 u90 u91 u92 u93 u94 u95 u96 u97 u98 u99 u100 u101 u102 u103 u104 u105 u106 u107 u108 u109 u110 u111 u112 u113 u114 u115 u116 u117 u118 u119 u120 u121 u122 u123 u124 u125 u126 u127 u128 u129 u130 u131 u132 u133 u134 u135 u136 u137 u138 u139 u140 u141 u142 u143 u144 u145 u146 u147 u148 u149 u150 u151 u152 u153 u154 u155 u156 u157 u158 u159 u160 u161 u162 u163 u164 u165 u166 u167 u168 u169 u170 u171 u172 u173 u174 u175 u176 u177 u178 u179 u180 u181 u182 u183 u184 u185 u186 u187 u188 u189 u190 u191 u192 u193 u194 u195 u196 u197 u198 u199 u200 u201 u202 u203 u204 u205 u206 u207 u208 u209 u210 u211 u212 u213 u214 u215 u216 u217 u218 u219 u220 u221 u222 u223 u224 HF
  go_wp2
  go_ret
  exact ⟨rfl, unhide HF⟩

end Go.Proofs.YtphkjeeblihfgaaDoor

