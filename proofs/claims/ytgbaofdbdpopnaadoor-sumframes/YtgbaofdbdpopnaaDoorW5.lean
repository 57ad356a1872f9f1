/- The walk of the law SumFrames. -/
import Derived.Test.YtgbaofdbdpopnaaDoorW3
import Derived.Test.YtgbaofdbdpopnaaDoorR3
import Derived.Test.YtgbaofdbdpopnaaDoorI3
namespace Go.Proofs.YtgbaofdbdpopnaaDoor
open Go.RowKit

theorem openF_small (b : List UInt8) : ((openF b).getD []).length ≤ b.length := by
  by_cases h4 : b.length < 4
  · rw [openF_short h4]; simp
  · obtain ⟨body, tl, rfl, htl⟩ : ∃ body tl, b = body ++ tl ∧ tl.length = 4 := ⟨b.take (b.length - 4), b.drop (b.length - 4), (List.take_append_drop _ _).symm, by rw [List.length_drop]; omega⟩
    rw [openF_parts body tl htl]
    split <;> simp

theorem lent_apart {w : World} {ao : Option Addr} {cap : Nat} {bs : List UInt8} (hB : BAt w ao cap bs) {g : Nat} (hg : w.heap.size ≤ g) : ∀ b off, ao = some ⟨b, off, none⟩ → 0 < bs.length → g ≠ b := by
  intro b off e h0
  obtain ⟨b', off', e', hc⟩ := hB.2.1 h0
  rw [e] at e'
  injection e' with e'
  injection e' with e1 e2
  subst e1
  have h1 : b < w.heap.size := World.block_lt_of_cell? _ _ (hc 0 h0)
  omega

theorem Row.below {w : World} {ao : Option Addr} {n cap g : Nat} {bs : List UInt8} (h : Row w (.slice ao n cap) g bs) (hc : 0 < cap) : g < w.heap.size := h.vrow.lt hc

/-- Four rows. -/
def four (a b c d : RD) : Nat → RD
  | 0 => a
  | 1 => b
  | 2 => c
  | _ => d

theorem four_handed {w : World} {a b c d : RD} (oa : Own w a) (ob : Own w b) (oc : Own w c) (od : Own w d)
    (ab : 0 < a.cap → 0 < b.cap → a.g < b.g) (ac : 0 < a.cap → 0 < c.cap → a.g < c.g) (ad : 0 < a.cap → 0 < d.cap → a.g < d.g) (bc : 0 < b.cap → 0 < c.cap → b.g < c.g) (bd : 0 < b.cap → 0 < d.cap → b.g < d.g) (cd : 0 < c.cap → 0 < d.cap → c.g < d.g)
    (fa : a.n + 9 ≤ 140737488355328) (fb : b.n + 9 ≤ 140737488355328) (fc : c.n + 9 ≤ 140737488355328) (fd : d.n + 9 ≤ 140737488355328) :
    Handed (w.alloc (.cells #[a.val, b.val, c.val, d.val] 22)) w.heap.size 4 (four a b c d) := by
  have st : ∀ {x : RD}, Own w x → Own (w.alloc (.cells #[a.val, b.val, c.val, d.val] 22)) x := fun h => h.stay (fun hc => Below.heap_alloc _ _ _ (h.lt hc))
  refine ⟨fun j hj => ?_, fun j hj => ?_, fun j k hj hk hne h1 h2 => ?_, fun j hj hc => ?_, fun j hj => ?_, by omega⟩
  · rw [World.cell?_alloc_new]
    match j, hj with
    | 0, _ => rfl
    | 1, _ => rfl
    | 2, _ => rfl
    | 3, _ => rfl
  · match j, hj with
    | 0, _ => exact st oa
    | 1, _ => exact st ob
    | 2, _ => exact st oc
    | 3, _ => exact st od
  · match j, hj, k, hk with
    | 0, _, 0, _ => exact absurd rfl hne
    | 0, _, 1, _ => exact Nat.ne_of_lt (ab h1 h2)
    | 0, _, 2, _ => exact Nat.ne_of_lt (ac h1 h2)
    | 0, _, 3, _ => exact Nat.ne_of_lt (ad h1 h2)
    | 1, _, 0, _ => exact (Nat.ne_of_lt (ab h2 h1)).symm
    | 1, _, 1, _ => exact absurd rfl hne
    | 1, _, 2, _ => exact Nat.ne_of_lt (bc h1 h2)
    | 1, _, 3, _ => exact Nat.ne_of_lt (bd h1 h2)
    | 2, _, 0, _ => exact (Nat.ne_of_lt (ac h2 h1)).symm
    | 2, _, 1, _ => exact (Nat.ne_of_lt (bc h2 h1)).symm
    | 2, _, 2, _ => exact absurd rfl hne
    | 2, _, 3, _ => exact Nat.ne_of_lt (cd h1 h2)
    | 3, _, 0, _ => exact (Nat.ne_of_lt (ad h2 h1)).symm
    | 3, _, 1, _ => exact (Nat.ne_of_lt (bd h2 h1)).symm
    | 3, _, 2, _ => exact (Nat.ne_of_lt (cd h2 h1)).symm
    | 3, _, 3, _ => exact absurd rfl hne
  · match j, hj with
    | 0, _ => exact Nat.ne_of_lt (oa.lt hc)
    | 1, _ => exact Nat.ne_of_lt (ob.lt hc)
    | 2, _ => exact Nat.ne_of_lt (oc.lt hc)
    | 3, _ => exact Nat.ne_of_lt (od.lt hc)
  · match j, hj with
    | 0, _ => exact fa
    | 1, _ => exact fb
    | 2, _ => exact fc
    | 3, _ => exact fd

set_option maxHeartbeats 4000000 in
set_option maxRecDepth 100000 in
theorem frames_walk (w : World) (hT : TabAt w) (ao : Option Addr) (ca : Nat) (a : List UInt8) (hA : BAt w ao ca a) (bo : Option Addr) (cb : Nat) (b : List UInt8) (hB : BAt w bo cb b) (hcb : b.length ≤ cb) (fa : a.length ≤ 140737488351232) (fb : b.length ≤ 140737488351232) :
    Calls Tryd.prog 5 #[.slice ao a.length ca, .slice bo b.length cb] w fun e w' => e = .returned (.bool true) ∧ Fr (fun _ => False) w w' := by
  have HT := hide hT
  have HA := hide hA
  have HB := hide hB
  clear hT hA hB
  obtain ⟨F, hF⟩ : ∃ F, frameF a = F := ⟨_, rfl⟩
  have hFl : F.length = a.length + 4 := by rw [← hF, frameF_length]
  have Hf := hide hF
  have HFl := hide hFl
  clear hF hFl
  obtain ⟨X, hX⟩ : ∃ X, (openF b).getD [] = X := ⟨_, rfl⟩
  have hXl : X.length ≤ 140737488351232 := by rw [← hX]; exact Nat.le_trans (openF_small b) fb
  obtain ⟨t, ht⟩ : ∃ t, (openF b).isSome = t := ⟨_, rfl⟩
  have HX := hide (And.intro hX ht)
  clear hX ht
  go_enter Tryd.func5, Tryd.ntmps5
  go_wp2_with fail
  refine (awake_any _ (unhide HT)).mono ?_
  rintro e w1 ⟨rfl, hF1⟩
  have HF1 := hide hF1
  clear hF1
  go_wp2_with fail
  refine (lent_any w1 ao ca a ((unhide HA).later (unhide HF1))).mono ?_
  rintro e w2 ⟨g0, rfl, hF2, hg0, hrow⟩
  have HF2 := hide ((unhide HF1).trans hF2 (fun _ _ t => t))
  have hg : w.heap.size ≤ g0 := Nat.le_trans (unhide HF1).size hg0
  have hg0l : g0 < w2.heap.size := World.block_lt_of_cell? _ _ (hrow 0 (by omega)).1
  have HL := hide hrow
  have HA2 := hide (lent_bat (by omega) hrow)
  clear hF2 hg0 hrow HF1
  go_wp2_with fail
  refine (frame_any w2 ((unhide HT).later (unhide HF2)) _ (a.length + 3) a (unhide HA2) (by omega)).mono ?_
  rw [unhide Hf]
  rintro e w3 ⟨v, rfl, gf, rf, hF3, bf1⟩
  obtain ⟨fo, fc, rfl, hfc, _⟩ := rf.shape
  have bf2 := rf.below (by have := unhide HFl; omega)
  have HF3 := hide ((unhide HF2).trans hF3 (fun _ _ t => t))
  have HRF := hide (And.intro rf hF3)
  clear rf hF3
  go_wp2_with fail
  refine (frame_any w3 ((unhide HT).later (unhide HF3)) _ (a.length + 3) a ((unhide HA2).later (unhide HRF).2) (by omega)).mono ?_
  rw [unhide Hf]
  rintro e w4 ⟨v, rfl, gg, rg, hF4, bg1⟩
  obtain ⟨go, gc, rfl, hgc, _⟩ := rg.shape
  have bg2 := rg.below (by have := unhide HFl; omega)
  have hF24 := (unhide HRF).2.trans hF4 (fun _ _ t => t)
  have HF4 := hide ((unhide HF3).trans hF4 (fun _ _ t => t))
  have hL4 : ∀ j, j < a.length + 3 → w4.cell? ⟨g0, j, none⟩ = some (.int .u8 (lentF a (a.length + 3) j)) ∧ w4.frozen? ⟨g0, j, none⟩ = false := fun j hj =>
    ⟨(hF24.cell (a := ⟨g0, j, none⟩) hg0l (fun t => t)).trans (unhide HL j hj).1, (hF24.frozen (a := ⟨g0, j, none⟩) hg0l (fun t => t)).trans (unhide HL j hj).2⟩
  have HR4 := hide (And.intro ((unhide HRF).1.frame hF4 (fun t => t)) (And.intro rg hL4))
  clear rg hF4 hF24 hL4 HRF HA2 HL HF3
  go_wp2_with fail
  refine (back_any w4 ao ca a ((unhide HA).later (unhide HF4)) g0 (lent_apart (unhide HA) hg) (unhide HR4).2.2).mono ?_
  rintro e w5 ⟨rfl, hF5⟩
  have s45 := hF5.size
  have HF5 := hide ((unhide HF4).trans hF5 (fun i hi t => by have t' : i = g0 := t; omega))
  have HR5 := hide (And.intro ((unhide HR4).1.frame hF5 (fun t => by have t' : gf = g0 := t; omega)) ((unhide HR4).2.1.frame hF5 (fun t => by have t' : gg = g0 := t; omega)))
  clear hF5 HR4 HF4 HF2
  go_wp2_with fail
  refine (lent_any w5 bo cb b ((unhide HB).later (unhide HF5))).mono ?_
  rintro e w6 ⟨g1, rfl, hF6, hg1, hrow⟩
  have hg1l : g1 < w6.heap.size := World.block_lt_of_cell? _ _ (hrow 0 (by omega)).1
  have hgw1 : w.heap.size ≤ g1 := Nat.le_trans (unhide HF5).size hg1
  have HF6 := hide ((unhide HF5).trans hF6 (fun _ _ t => t))
  have HB6 := hide (lent_bat (by omega) hrow)
  have HR6 := hide (And.intro ((unhide HR5).1.frame hF6 (fun t => t)) (And.intro ((unhide HR5).2.frame hF6 (fun t => t)) hrow))
  clear hF6 hrow HR5 HF5
  go_wp2_with fail
  refine (open_any w6 ((unhide HT).later (unhide HF6)) _ (b.length + 3) b (unhide HB6) (by omega)).mono ?_
  rw [(unhide HX).1, (unhide HX).2]
  rintro e w7 ⟨v, rfl, gx, rx, hF7, bx1⟩
  obtain ⟨xo, xc, rfl, hxc, _⟩ := rx.shape
  have bx2 := fun hc => rx.below (n := X.length) (cap := xc) hc
  have HF7 := hide ((unhide HF6).trans hF7 (fun _ _ t => t))
  have HR7 := hide (And.intro ((unhide HR6).1.frame hF7 (fun t => t)) (And.intro ((unhide HR6).2.1.frame hF7 (fun t => t)) (And.intro rx hF7)))
  clear rx hF7
  go_wp2_with fail
  refine (open_any w7 ((unhide HT).later (unhide HF7)) _ (b.length + 3) b ((unhide HB6).later (unhide HR7).2.2.2) (by omega)).mono ?_
  rw [(unhide HX).1, (unhide HX).2]
  rintro e w8 ⟨v, rfl, gy, ry, hF8, by1⟩
  obtain ⟨yo, yc, rfl, hyc, _⟩ := ry.shape
  have by2 := fun hc => ry.below (n := X.length) (cap := yc) hc
  have hF68 := (unhide HR7).2.2.2.trans hF8 (fun _ _ t => t)
  have HF8 := hide ((unhide HF7).trans hF8 (fun _ _ t => t))
  have hL8 : ∀ j, j < b.length + 3 → w8.cell? ⟨g1, j, none⟩ = some (.int .u8 (lentF b (b.length + 3) j)) ∧ w8.frozen? ⟨g1, j, none⟩ = false := fun j hj =>
    ⟨(hF68.cell (a := ⟨g1, j, none⟩) hg1l (fun t => t)).trans ((unhide HR6).2.2 j hj).1, (hF68.frozen (a := ⟨g1, j, none⟩) hg1l (fun t => t)).trans ((unhide HR6).2.2 j hj).2⟩
  have HR8 := hide (And.intro ((unhide HR7).1.frame hF8 (fun t => t)) (And.intro ((unhide HR7).2.1.frame hF8 (fun t => t)) (And.intro ((unhide HR7).2.2.1.frame hF8 (fun t => t)) (And.intro ry hL8))))
  have s68 := hF68.size
  clear ry hF8 hF68 hL8 HR6 HB6 HF6
  go_wp2_with fail
  refine (back_any w8 bo cb b ((unhide HB).later (unhide HF8)) g1 (lent_apart (unhide HB) hgw1) (unhide HR8).2.2.2.2).mono ?_
  rintro e w9 ⟨rfl, hF9⟩
  have HF9 := hide ((unhide HF8).trans hF9 (fun i hi t => by have t' : i = g1 := t; omega))
  have HR9 := hide (And.intro ((unhide HR8).1.frame hF9 (fun t => by have t' : gf = g1 := t; omega)) (And.intro ((unhide HR8).2.1.frame hF9 (fun t => by have t' : gg = g1 := t; omega)) (And.intro ((unhide HR8).2.2.1.frame hF9 (fun t => by have t' : gx = g1 := t; omega)) ((unhide HR8).2.2.2.1.frame hF9 (fun t => by have t' : gy = g1 := t; have := (unhide HR7).2.2.2.size; omega)))))
  clear hF9 HR8 HF8
  have s67 := (unhide HR7).2.2.2.size
  clear HR7 HF7
  go_wp2_with fail
  refine (rframe_any w9 ao ca a ((unhide HA).later (unhide HF9)) (by omega)).mono ?_
  rw [unhide Hf]
  rintro e w10 ⟨v, rfl, gw, rw_, hF10, _⟩
  obtain ⟨wo, wc, rfl, _⟩ := rw_.shape
  have HF10 := hide ((unhide HF9).trans hF10 (fun _ _ t => t))
  have HR10 := hide (And.intro rw_ hF10)
  clear rw_ hF10
  go_wp2_with fail
  refine (ropen_any w10 bo cb b ((unhide HB).later (unhide HF10)) hcb).mono ?_
  rw [(unhide HX).1, (unhide HX).2]
  rintro e w11 ⟨v, rfl, gv, rv, hF11, _⟩
  obtain ⟨vo, vc, rfl, _⟩ := rv.shape
  have hF911 := (unhide HR10).2.trans hF11 (fun _ _ t => t)
  have HF11 := hide ((unhide HF10).trans hF11 (fun _ _ t => t))
  obtain ⟨q1, q2, q3, q4⟩ := unhide HR9
  have r1 := q1.frame hF911 (fun t => t)
  have r2 := q2.frame hF911 (fun t => t)
  have r3 := q3.frame hF911 (fun t => t)
  have r4 := q4.frame hF911 (fun t => t)
  have hFb : F.length ≤ 140737488355328 := by have := unhide HFl; omega
  have cf := conv_bytes (r1.bat hFb).2
  have cg := conv_bytes (r2.bat hFb).2
  have cx := conv_bytes (r3.bat (by omega)).2
  have cy := conv_bytes (r4.bat (by omega)).2
  have cw := conv_bytes (((unhide HR10).1.frame hF11 (fun t => t)).bat hFb).2
  have cv := conv_bytes (rv.bat (by omega)).2
  have e1 : (F == F) = true := by simp
  have e2 : (X == X) = true := by simp
  have hfit : F.length + 9 ≤ 140737488355328 := by have := unhide HFl; omega
  have hHd := four_handed (a := ⟨fo, F.length, fc, gf⟩) (b := ⟨go, F.length, gc, gg⟩) (c := ⟨xo, X.length, xc, gx⟩) (d := ⟨yo, X.length, yc, gy⟩) r1.own r2.own r3.own r4.own (fun _ _ => by simp only []; omega) (fun _ _ => by simp only []; omega) (fun _ _ => by simp only []; omega) (fun _ _ => by simp only []; omega) (fun _ _ => by simp only []; omega) (fun h _ => by have := bx2 h; simp only []; omega) hfit hfit (by simp only []; omega) (by simp only []; omega)
  have HHd := hide hHd
  clear q1 q2 q3 q4 r1 r2 r3 r4 rv hF11 hF911 HR9 HR10 hHd
  go_wp2_with fail
  have hown := owned_any _ w11.heap.size 4 4 _ (unhide HHd)
  refine hown.mono ?_
  rintro e w12 ⟨rfl, hF12⟩
  have HF12 := hide (((unhide HF11).alloc _).trans hF12 (fun k hk t => by
    obtain ⟨j, hj, hc, e⟩ := t
    match j, hj, e with
    | 0, _, e => have e' : k = gf := e; omega
    | 1, _, e => have e' : k = gg := e; omega
    | 2, _, e => have e' : k = gx := e; omega
    | 3, _, e => have e' : k = gy := e; omega))
  clear hF12 hown
  go_wp2
  go_ret
  exact ⟨rfl, unhide HF12⟩

end Go.Proofs.YtgbaofdbdpopnaaDoor
