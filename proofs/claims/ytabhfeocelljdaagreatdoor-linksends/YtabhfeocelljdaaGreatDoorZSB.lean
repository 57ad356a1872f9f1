import Derived.Test.YtabhfeocelljdaaGreatDoorZSA
import Derived.Lib.SlBytesConst
import Derived.Test.YtabhfeocelljdaaGreatDoorZHC
/- The contracts of Mac, Key, Token. -/
namespace Go.Proofs.YtabhfeocelljdaaGreatDoor
open Go.RowKit

theorem lit_get (l : List UInt8) (j : Nat) (hj : j < l.length) : (bytesV l).toArray[j]? = some (.int .u8 l[j].toNat) := by
  rw [List.getElem?_toArray, bytesV_get _ _ hj]
theorem src_newZ (w : World) (bs : List UInt8) (n : Nat) (hn : w.heap.size = n) (hm : bs.length ≤ 140737488355328) : Src Tryz.prog 1 23 (.slice (some ⟨n, 0, none⟩) bs.length bs.length) bs.length (bytesV bs) (w.alloc (.cells (bytesV bs).toArray 5)) := by
  subst hn
  exact src_slice Tryz.underlying23 _ _ _ bs (bat_lit w bs 5 (0, 0) hm).2.1
theorem lit2 (d : Nat) (hd : d ≤ 65535) : #[Value.int .u8 ((d : Int) / 256), .int .u8 ((d : Int) % 256)] = (bytesV [UInt8.ofNat (d / 256), UInt8.ofNat d]).toArray := by
  simp [bytesV]
  omega

/-- The bytes that tell of a device; those that tell of a card. -/
def devB (d : Nat) : List UInt8 := [100, 101, 118, 105, 99, 101, UInt8.ofNat (d / 256), UInt8.ofNat d]
def tokB (c : List UInt8) : List UInt8 := [116, 111, 107, 101, 110] ++ c

end Go.Proofs.YtabhfeocelljdaaGreatDoor

/- The contract of Seal. -/
namespace Go.Proofs.YtabhfeocelljdaaGreatDoor
open Go.RowKit

/-- What is sealed. -/
def sealed (s b : List UInt8) : List UInt8 := b ++ (hmac s b).take 16

theorem take16 (s b : List UInt8) : ((hmac s b).take 16).length = 16 := by rw [List.length_take, hmac_length]; rfl
theorem sealed_length (s b : List UInt8) : (sealed s b).length = b.length + 16 := by unfold sealed; rw [List.length_append, take16]

set_option maxRecDepth 20000 in
theorem seal_long (w : World) (s : List UInt8) (hs : 200 < s.length) (bv : Value) :
    Calls Tryz.prog 25 #[.string ⟨s.toArray⟩, bv] w fun e w' => e = .returned (.tuple #[.slice none 0 0, .int .i64 2]) ∧ w' = w := by
  go_enter Tryz.func25, Tryz.ntmps25
  go_wp2_with fail
  refine (islong_any w s).mono ?_
  rintro e w1 ⟨rfl, rfl⟩
  rw [decide_eq_true hs]
  go_wp2
  go_ret2
  exact ⟨rfl, rfl⟩

set_option maxRecDepth 20000 in
set_option maxHeartbeats 1000000 in
theorem seal_any (w : World) (hT : TabP w) (s : List UInt8) (hs : s.length ≤ 200) (bo : Option Addr) (bcap : Nat) (bs : List UInt8) (hB : BAt w bo bcap bs) (hcap : bs.length ≤ bcap) (hfit : bs.length + 16 ≤ 140737488355328) :
    Calls Tryz.prog 25 #[.string ⟨s.toArray⟩, .slice bo bs.length bcap] w fun e w' => ∃ ao cap, e = .returned (.tuple #[.slice ao (bs.length + 16) cap, .int .i64 0]) ∧ New w (sealed s bs) (.slice ao (bs.length + 16) cap) w' := by
  have HT := hide hT
  have HB := hide hB
  clear hT hB
  obtain ⟨i0, hi, hz0, hz1, hz2⟩ := info_parts Tryz.info5
  have hmk : ∀ w, (Instr.makeSlice 23 (.int .i64 0) (.int .i64 ((bs.length : Int) + 16))).run Tryz.prog w = .ok (.slice (some ⟨w.heap.size, 0, none⟩) 0 (bs.length + 16)) (w.alloc (.cells (madeCells #[.int .u8 0] (bs.length + 16)) 5)) := by
    intro w
    have := run_make (P := Tryz.prog) w 23 5 i0 (.int .u8 0) Tryz.underlying23 hi hz0 .i64 .i64 0 (bs.length + 16) (by omega) (by omega) (by rw [hz2]; omega) (by omega)
    rw [hz1, Nat.mul_one] at this
    exact this
  have hrow0 : Row (w.alloc (.cells (madeCells #[.int .u8 0] (bs.length + 16)) 5)) (.slice (some ⟨w.heap.size, 0, none⟩) 0 (bs.length + 16)) w.heap.size [] := by
    refine Row.empty (by simp only [maxLen]; omega) (fun j hj => ⟨?_, World.frozen?_alloc_new _ _ _ _⟩)
    rw [World.cell?_alloc_new, Array.getElem?_eq_getElem (by rw [size_madeCells]; exact hj)]; rfl
  have HI := hide hi
  have H0 := hide (And.intro hrow0 ((Fr.refl (fun _ => False) w).alloc (.cells (madeCells #[.int .u8 0] (bs.length + 16)) 5)))
  clear hi hrow0
  go_enter Tryz.func25, Tryz.ntmps25
  go_wp2_with fail
  refine (islong_any w s).mono ?_
  rintro e w1 ⟨rfl, rfl⟩
  rw [decide_eq_false (by omega)]
  go_wp2_with (at_builtin; refine wpList_append_row _ rfl (.tmp 13) (.tmp 14) 23 23 rfl 5 i0 Tryz.underlying23 (unhide HI) hz0 hz1 hz2 (ao := some ⟨w1.heap.size, 0, none⟩) (cap := bs.length + 16) (g := w1.heap.size) (bs := []) rfl ?hr _ bs rfl ?hs ?hf ?nx)
  case hr => exact (unhide H0).1
  case hs => exact src_slice Tryz.underlying23 _ _ _ bs ((unhide HB).later (unhide H0).2).2.1
  case hf => simp; omega
  intro ao cap w2 g hrow hF hg
  have hF2 : Fr (fun _ => False) w1 w2 := (unhide H0).2.trans hF (fun i hi t => by omega)
  have hrow2 : Row w2 (.slice ao bs.length cap) g bs := by simpa using hrow
  have hge : w1.heap.size ≤ g := by
    rcases hg with e | e
    · omega
    · have := (unhide H0).2.size; omega
  have HM := hide (sealof_any w2 ((unhide HT).later hF2) s hs bo bcap bs ((unhide HB).later hF2) hcap)
  have HR := hide (And.intro hrow2 hF2)
  clear hrow hrow2 hF hg hF2 hmk
  go_wp2_with fail
  refine (unhide HM).mono ?_
  rintro e w3 ⟨mo, mc, rfl, g3, r1, r2, r3⟩
  have hb3 := r1.batn (by omega)
  have hrow3 := (unhide HR).1.frame r2 (fun t => t)
  have hF3 := (unhide HR).2.trans r2 (fun _ _ t => t)
  have hsrc := src_slice Tryz.underlying23 w3 mo mc ((hmac s bs).take 16) hb3.1.2.1
  rw [hb3.2.1] at hsrc
  have H3 := hide (And.intro hrow3 (And.intro hF3 hsrc))
  clear hb3 hrow3 hF3 hsrc r1 r2 r3 HM HR
  go_wp2_with (at_builtin; refine wpList_append_row _ rfl (.tmp 16) (.tmp 19) 23 23 rfl 5 i0 Tryz.underlying23 (unhide HI) hz0 hz1 hz2 (ao := ao) (cap := cap) (g := g) (bs := bs) rfl ?hr2 _ ((hmac s bs).take 16) rfl ?hs2 ?hf2 ?nx2)
  case hr2 => exact (unhide H3).1
  case hs2 => rw [take16]; exact (unhide H3).2.2
  case hf2 => rw [take16]; exact hfit
  intro ao4 cap4 w4 g4 hrow4 hF4 hg4
  rw [show min 16 (hmac s bs).length = 16 by rw [hmac_length]; rfl] at hrow4 ⊢
  have HN : Hid (New w1 (sealed s bs) (.slice ao4 (bs.length + 16) cap4) w4) := by
    refine ⟨g4, hrow4, (unhide H3).2.1.trans hF4 (fun i hi t => by omega), ?_⟩
    rcases hg4 with e | e
    · omega
    · have := (unhide H3).2.1.size; omega
  clear hrow4 hF4 hg4 H3
  go_wp2
  go_ret2
  exact ⟨_, _, rfl, unhide HN⟩

end Go.Proofs.YtabhfeocelljdaaGreatDoor

/- The region of Open that draws its order. -/
namespace Go.Proofs.YtabhfeocelljdaaGreatDoor
open Go.RowKit

set_option maxHeartbeats 1000000 in
theorem op6_any {Q : Exit → Act → World → Prop} (w0 : World) (hT : TabP w0) (s : List UInt8) (hs : s.length ≤ 200) (b off m bcap : Nat) (x y : List UInt8) (hx : x.length = m) (hy : y.length = 16) (hX : BAt w0 (some ⟨b, off, none⟩) bcap x) (hY : BAt w0 (some ⟨b, off + m, none⟩) (bcap - m) y) (hm : m + 16 ≤ bcap) (hsm : m + 16 ≤ 140737488355328) (u2 u3 u4 u5 u7 u8 u9 u10 u11 u12 u13 u14 u15 u16 u17 u18 u19 u20 u21 u22 u23 u24 u25 u26 u27 : Value) (hQ : ∀ c (a : Act) (t : Tmp) v w, Q (.panic c) (a.put (some t) v) w → Q (.panic c) a w)
    (h : ∀ w9 so sc, Fr (fun _ => False) w0 w9 → Q .normal { tmps := #[(.string ⟨s.toArray⟩ : Value), (.slice (some ⟨b, off, none⟩) (m + 16) bcap), u2, u3, u4, u5, (.int .i64 m), u7, u8, u9, u10, u11, u12, u13, (.string ⟨s.toArray⟩), (.slice (some ⟨b, off, none⟩) (m + 16) bcap), (.int .i64 m), (.slice (some ⟨b, off, none⟩) m bcap), (.slice so 16 sc), (.slice (some ⟨b, off, none⟩) (m + 16) bcap), (.int .i64 m), (.slice (some ⟨b, off + m, none⟩) 16 (bcap - m)), (.bool (decide ((hmac s x).take 16 = y))), (.bool (!decide ((hmac s x).take 16 = y))), u24, u25, u26, u27], defers := [] } w9) :
    (Code.region 6 #[{ dst := some 14, op := Go.Op.move (Go.Operand.tmp 0), type := 9, pos := "seal.go:63", after := #[], guard := none }, { dst := some 15, op := Go.Op.move (Go.Operand.tmp 1), type := 23, pos := "seal.go:63", after := #[], guard := none }, { dst := some 16, op := Go.Op.move (Go.Operand.tmp 6), type := 3, pos := "seal.go:63", after := #[], guard := none }, { dst := some 17, op := Go.Op.slice 23 (Go.Operand.tmp 15) none (some (Go.Operand.tmp 16)) none, type := 23, pos := "seal.go:63", after := #[{ on := 1, ground := Go.Ground.data }, { on := 2, ground := Go.Ground.data }], guard := none }, { dst := some 18, op := Go.Op.call { callee := Go.Callee.value (Go.Operand.func 49), args := #[Go.Operand.tmp 14, Go.Operand.tmp 17], argTypes := #[9, 23] }, type := 23, pos := "seal.go:63", after := #[{ on := 0, ground := Go.Ground.data }, { on := 3, ground := Go.Ground.data }], guard := none }, { dst := some 19, op := Go.Op.move (Go.Operand.tmp 1), type := 23, pos := "seal.go:63", after := #[], guard := none }, { dst := some 20, op := Go.Op.move (Go.Operand.tmp 6), type := 3, pos := "seal.go:63", after := #[], guard := none }, { dst := some 21, op := Go.Op.slice 23 (Go.Operand.tmp 19) (some (Go.Operand.tmp 20)) none none, type := 23, pos := "seal.go:63", after := #[{ on := 5, ground := Go.Ground.data }, { on := 6, ground := Go.Ground.data }], guard := none }, { dst := some 22, op := Go.Op.call { callee := Go.Callee.value (Go.Operand.func 59), args := #[Go.Operand.tmp 18, Go.Operand.tmp 21], argTypes := #[23, 23] }, type := 4, pos := "seal.go:63", after := #[{ on := 4, ground := Go.Ground.data }, { on := 7, ground := Go.Ground.data }, { on := 4, ground := Go.Ground.chain }], guard := none }, { dst := some 23, op := Go.Op.unOp Go.UnOp.not 4 (Go.Operand.tmp 22), type := 4, pos := "seal.go:63", after := #[{ on := 8, ground := Go.Ground.data }], guard := none }] true).wp Tryz.prog Q { tmps := #[(.string ⟨s.toArray⟩ : Value), (.slice (some ⟨b, off, none⟩) (m + 16) bcap), u2, u3, u4, u5, (.int .i64 m), u7, u8, u9, u10, u11, u12, u13, u14, u15, u16, u17, u18, u19, u20, u21, u22, u23, u24, u25, u26, u27], defers := [] } w0 := by
  refine wp_region_held_drew (S := fun w' => Fr (fun _ => False) w0 w') (by kernel_rfl) (Fr.refl _ w0).drew (fun hS => ?_)
  have e1 : (0 : Int) ≤ (m : Int) ∧ (m : Int) ≤ (bcap : Int) := by omega
  have e2 : (m : Int) ≤ (m : Int) + 16 := by omega
  have e4 : ¬ bcap = m := by omega
  have e5 : m + 16 - m = 16 := by omega
  refine wpAnyH_take (i := 0) (v := (.string ⟨s.toArray⟩)) rfl (by kernel_rfl) (by kernel_rfl) (by kernel_rfl) (fun _ _ _ h => hQ _ _ _ _ _ h) (Or.inl ⟨by kernel_rfl, fun w _ => by go_simp⟩) (by assumption) ?_
  refine wpAnyH_take (i := 1) (v := (.slice (some ⟨b, off, none⟩) (m + 16) bcap)) rfl (by kernel_rfl) (by kernel_rfl) (by kernel_rfl) (fun _ _ _ h => hQ _ _ _ _ _ h) (Or.inl ⟨by kernel_rfl, fun w _ => by go_simp⟩) (by assumption) ?_
  refine wpAnyH_take (i := 2) (v := (.int .i64 m)) rfl (by kernel_rfl) (by kernel_rfl) (by kernel_rfl) (fun _ _ _ h => hQ _ _ _ _ _ h) (Or.inl ⟨by kernel_rfl, fun w _ => by go_simp⟩) (by assumption) ?_
  refine wpAnyH_take (i := 3) (v := (.slice (some ⟨b, off, none⟩) m bcap)) rfl (by kernel_rfl) (by kernel_rfl) (by kernel_rfl) (fun _ _ _ h => hQ _ _ _ _ _ h) (Or.inl ⟨by kernel_rfl, fun w _ => by go_simp⟩) (by assumption) ?_
  refine wpAnyH_take (i := 5) (v := (.slice (some ⟨b, off, none⟩) (m + 16) bcap)) rfl (by kernel_rfl) (by kernel_rfl) (by kernel_rfl) (fun _ _ _ h => hQ _ _ _ _ _ h) (Or.inl ⟨by kernel_rfl, fun w _ => by go_simp⟩) (by assumption) ?_
  refine wpAnyH_take (i := 6) (v := (.int .i64 m)) rfl (by kernel_rfl) (by kernel_rfl) (by kernel_rfl) (fun _ _ _ h => hQ _ _ _ _ _ h) (Or.inl ⟨by kernel_rfl, fun w _ => by go_simp⟩) (by assumption) ?_
  refine wpAnyH_take (i := 7) (v := (.slice (some ⟨b, off + m, none⟩) 16 (bcap - m))) rfl (by kernel_rfl) (by kernel_rfl) (by kernel_rfl) (fun _ _ _ h => hQ _ _ _ _ _ h) (Or.inl ⟨by kernel_rfl, fun w _ => by go_simp⟩) (by assumption) ?_
  have HE := sealof_any w0.drew (hT.later (Fr.refl _ w0).drew) s hs (some ⟨b, off, none⟩) bcap x (hX.later (Fr.refl _ w0).drew) (by omega)
  rw [hx] at HE
  refine wpAnyH_ready (rs := [4]) (by kernel_rfl) (by simp) (readyH_call (i := 4) rfl (by kernel_rfl) 49 #[.string ⟨s.toArray⟩, .slice (some ⟨b, off, none⟩) m bcap] (by kernel_rfl) HE ?_ AllReadyH.nil)
  rintro e w3 ⟨so, sc, rfl, g3, r1, r2, _⟩
  have hb3 := r1.batn (by omega)
  have hS3 : Fr (fun _ => False) w0 w3 := ((Fr.refl (fun _ => False) w0).drew).trans r2 (fun _ _ t => t)
  refine ⟨_, rfl, hS3, ?_⟩
  have HS := ssame_any w3 so sc ((hmac s x).take 16) hb3.1 (some ⟨b, off + m, none⟩) (bcap - m) y (hY.later hS3)
  rw [hb3.2.1, hy] at HS
  refine wpAnyH_ready (rs := [8]) (by kernel_rfl) (by simp) (readyH_call (i := 8) rfl (by kernel_rfl) 59 #[.slice so 16 sc, .slice (some ⟨b, off + m, none⟩) 16 (bcap - m)] (by kernel_rfl) HS ?_ AllReadyH.nil)
  rintro e w4 ⟨rfl, rfl⟩
  refine ⟨_, rfl, hS3, ?_⟩
  refine wpAnyH_take (i := 9) (v := (.bool (!decide ((hmac s x).take 16 = y)))) rfl (by kernel_rfl) (by kernel_rfl) (by kernel_rfl) (fun _ _ _ h => hQ _ _ _ _ _ h) (Or.inl ⟨by kernel_rfl, fun w _ => by go_simp⟩) (by assumption) ?_
  refine wpAnyH_done (by kernel_rfl) ?_ _
  refine q_frame ?_ (h w4 so sc hS3)
  kernel_rfl

end Go.Proofs.YtabhfeocelljdaaGreatDoor

/- The contract of Open. -/
namespace Go.Proofs.YtabhfeocelljdaaGreatDoor
open Go.RowKit

set_option maxRecDepth 20000 in
theorem open_long (w : World) (s : List UInt8) (hs : 200 < s.length) (bv : Value) :
    Calls Tryz.prog 30 #[.string ⟨s.toArray⟩, bv] w fun e w' => e = .returned (.tuple #[.slice none 0 0, .int .i64 2]) ∧ w' = w := by
  go_enter Tryz.func30, Tryz.ntmps30
  go_wp2_with fail
  refine (islong_any w s).mono ?_
  rintro e w1 ⟨rfl, rfl⟩
  rw [decide_eq_true hs]
  go_wp2
  go_ret2
  exact ⟨rfl, rfl⟩

set_option maxRecDepth 20000 in
theorem open_short (w : World) (s : List UInt8) (hs : s.length ≤ 200) (ro : Option Addr) (n rc : Nat) (hn : n < 16) :
    Calls Tryz.prog 30 #[.string ⟨s.toArray⟩, .slice ro n rc] w fun e w' => e = .returned (.tuple #[.slice none 0 0, .int .i64 40]) ∧ w' = w := by
  go_enter Tryz.func30, Tryz.ntmps30
  go_wp2_with fail
  refine (islong_any w s).mono ?_
  rintro e w1 ⟨rfl, rfl⟩
  rw [decide_eq_false (by omega)]
  have h1 : decide ((n : Int) - 16 < 0) = true := decide_eq_true (by omega)
  go_wp2
  go_ret2
  exact ⟨rfl, rfl⟩

theorem BAt.parts {w : World} {ro : Option Addr} {rc : Nat} {x y : List UInt8} (h : BAt w ro rc (x ++ y)) (hy : 0 < y.length) : ∃ b off, ro = some ⟨b, off, none⟩ ∧ BAt w (some ⟨b, off, none⟩) rc x ∧ BAt w (some ⟨b, off + x.length, none⟩) (rc - x.length) y := by
  have h3 := h.2.2
  rw [List.length_append] at h3
  obtain ⟨b, off, rfl, hc⟩ := h.2.1 (by rw [List.length_append]; omega)
  refine ⟨b, off, rfl, ⟨fun e => (by cases e), fun _ => ⟨b, off, rfl, fun j hj => ?_⟩, by omega⟩, ⟨fun e => (by cases e), fun _ => ⟨b, off + x.length, rfl, fun j hj => ?_⟩, by omega⟩⟩
  · have := hc j (by rw [List.length_append]; omega)
    rw [List.getElem_append_left hj] at this
    exact this
  · have := hc (x.length + j) (by rw [List.length_append]; omega)
    rw [List.getElem_append_right (by omega)] at this
    simpa [Nat.add_assoc] using this

set_option maxRecDepth 20000 in
theorem open_bad (w : World) (hT : TabP w) (s : List UInt8) (hs : s.length ≤ 200) (ro : Option Addr) (rc : Nat) (x y : List UInt8) (m : Nat) (hm : x.length = m) (hy : y.length = 16) (hB : BAt w ro rc (x ++ y)) (hcap : m + 16 ≤ rc) (hne : ¬ (hmac s x).take 16 = y) :
    Calls Tryz.prog 30 #[.string ⟨s.toArray⟩, .slice ro (m + 16) rc] w fun e w' => e = .returned (.tuple #[.slice none 0 0, .int .i64 41]) ∧ Fr (fun _ => False) w w' := by
  have hsm := hB.2.2
  rw [List.length_append] at hsm
  obtain ⟨b, off, rfl, hX, hY⟩ := hB.parts (by omega)
  rw [hm] at hY
  have HT := hide hT
  have HX := hide (And.intro hX hY)
  have HM := hide (And.intro hm (And.intro hy hne))
  clear hT hX hY hB hne
  go_enter Tryz.func30, Tryz.ntmps30
  go_wp2_with fail
  refine (islong_any w s).mono ?_
  rintro e w1 ⟨rfl, rfl⟩
  rw [decide_eq_false (by omega)]
  go_wp2
  refine op6_any w1 (unhide HT) s hs b off m rc x y hm hy (unhide HX).1 (unhide HX).2 hcap (by omega) _ _ _ _ _ _ _ _ _ _ _ _ _ _ _ _ _ _ _ _ _ _ _ _ _ (fun _ _ _ _ _ h => h) ?_
  intro w9 so sc hF
  rw [decide_eq_false (unhide HM).2.2]
  have HF := hide hF
  clear hF
  go_wp2
  go_ret2
  exact ⟨rfl, unhide HF⟩

set_option maxRecDepth 20000 in
set_option maxHeartbeats 1000000 in
theorem open_ok (w : World) (hT : TabP w) (s : List UInt8) (hs : s.length ≤ 200) (ro : Option Addr) (rc : Nat) (x y : List UInt8) (m : Nat) (hm : x.length = m) (hy : y.length = 16) (hB : BAt w ro rc (x ++ y)) (hcap : m + 16 ≤ rc) (he : (hmac s x).take 16 = y) :
    Calls Tryz.prog 30 #[.string ⟨s.toArray⟩, .slice ro (m + 16) rc] w fun e w' => ∃ ao cap, e = .returned (.tuple #[.slice ao m cap, .int .i64 0]) ∧ New w x (.slice ao m cap) w' := by
  have hsm := hB.2.2
  rw [List.length_append] at hsm
  obtain ⟨b, off, rfl, hX, hY⟩ := hB.parts (by omega)
  rw [hm] at hY
  have HT := hide hT
  have HX := hide (And.intro hX hY)
  have HE := hide he
  obtain ⟨i0, hi, hz0, hz1, hz2⟩ := info_parts Tryz.info5
  have HI := hide hi
  clear hT hX hY hB he hi
  go_enter Tryz.func30, Tryz.ntmps30
  go_wp2_with fail
  refine (islong_any w s).mono ?_
  rintro e w1 ⟨rfl, rfl⟩
  rw [decide_eq_false (by omega)]
  go_wp2
  refine op6_any w1 (unhide HT) s hs b off m rc x y hm hy (unhide HX).1 (unhide HX).2 hcap (by omega) _ _ _ _ _ _ _ _ _ _ _ _ _ _ _ _ _ _ _ _ _ _ _ _ _ (fun _ _ _ _ _ h => h) ?_
  intro w9 so sc hF
  rw [decide_eq_true (unhide HE)]
  have HF := hide hF
  clear hF
  have HS : Hid (Src Tryz.prog 1 23 (.slice (some ⟨b, off, none⟩) m rc) x.length (bytesV x) w9) := by
    have := src_slice Tryz.underlying23 w9 (some ⟨b, off, none⟩) rc x ((unhide HX).1.later (unhide HF)).2.1
    rw [hm] at this ⊢
    exact this
  go_wp2_with (at_builtin; refine wpList_append_row _ rfl (.const (.slice none 0 0)) (.tmp 26) 23 23 rfl 5 i0 Tryz.underlying23 (unhide HI) hz0 hz1 hz2 (ao := none) (cap := 0) (g := w9.heap.size) (bs := []) rfl ?hr _ x rfl ?hs ?hf ?nx)
  case hr => exact Row.nil _ _
  case hs => exact unhide HS
  case hf => simp; omega
  intro ao cap w5 g5 hrow hF5 hg
  have HN : Hid (New w1 x (.slice ao m cap) w5) := ⟨g5, hrow, (unhide HF).trans hF5 (fun _ _ t => t.elim), by have := (unhide HF).size; omega⟩
  clear hrow hF5 hg
  go_wp2
  go_ret2
  exact ⟨_, _, rfl, unhide HN⟩

end Go.Proofs.YtabhfeocelljdaaGreatDoor

