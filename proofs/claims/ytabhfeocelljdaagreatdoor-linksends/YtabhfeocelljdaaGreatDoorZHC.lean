import Derived.Test.YtabhfeocelljdaaGreatDoorZHB
import Derived.Deep.RegionHeld
/- The region of Write that changes the words, in whatever order its operations come. -/
namespace Go.Proofs.YtabhfeocelljdaaGreatDoor
open Go.RowKit

theorem q_frame {Q : Exit → Act → World → Prop} {e : Exit} {a a' : Act} {w : World} (ha : a = a') (h : Q e a' w) : Q e a w := ha ▸ h

set_option maxHeartbeats 1000000 in
theorem region5_any {Q : Exit → Act → World → Prop} (w2 : World) (p : Nat) (f : Nat → Nat) (B : Nat → UInt8) (M : Nat) (hb : Blk w2 p 137 73 (hcell f B M)) (hT : TabP w2) (hfl : ∀ j, f j < 4294967296)
    (u1 u2 u3 u4 u5 u6 u7 u8 u9 u10 u11 u12 u13 u14 u15 u16 u17 u18 u19 u20 u21 u22 u23 u24 u25 u26 u27 u28 u29 u30 u31 u32 u33 u34 u35 u36 u37 u38 u39 u40 u41 u42 u43 u44 u45 u46 u47 : Value) (hQ : ∀ c (a : Act) (t : Tmp) v w, Q (.panic c) (a.put (some t) v) w → Q (.panic c) a w)
    (h : ∀ w4, Blk w4 p 137 73 (hcell (comp f B) B M) → Fr (fun k => k = p) w2 w4 → Q .normal { tmps := #[Value.pointer (some ⟨p, 0, none⟩), u1, u2, u3, u4, u5, u6, u7, u8, u9, u10, u11, u12, u13, u14, u15, u16, u17, u18, u19, u20, u21, u22, u23, u24, u25, u26, u27, u28, u29, u30, u31, u32, u33, u34, u35, .pointer (some ⟨p, 0, none⟩), .pointer (some ⟨p, 0, none⟩), .pointer (some ⟨p, 0, none⟩), .pointer (some ⟨p, 0, none⟩), .agg (arr 8 (wv f)), .pointer (some ⟨p, 0, none⟩), .pointer (some ⟨p, 0, none⟩), .pointer (some ⟨p, 8, none⟩), .agg (arr 64 (bv B)), .agg (arr 8 (wv (comp f B))), .pointer (some ⟨p, 0, none⟩), .pointer (some ⟨p, 0, none⟩)], defers := [] } w4) :
    (Code.region 5 #[{ dst := some 36, op := Go.Op.move (Go.Operand.tmp 0), type := 123, pos := "hash.go:34", after := #[], guard := none }, { dst := some 37, op := Go.Op.move (Go.Operand.tmp 0), type := 123, pos := "hash.go:34", after := #[], guard := none }, { dst := some 38, op := Go.Op.nilCheck (Go.Operand.tmp 37), type := 0, pos := "hash.go:34", after := #[{ on := 1, ground := Go.Ground.data }], guard := none }, { dst := some 39, op := Go.Op.fieldAddr 137 (Go.Operand.tmp 38) 0, type := 0, pos := "hash.go:34", after := #[{ on := 2, ground := Go.Ground.data }], guard := none }, { dst := some 40, op := Go.Op.load 133 (Go.Operand.tmp 39), type := 133, pos := "hash.go:34", after := #[{ on := 3, ground := Go.Ground.data }], guard := none }, { dst := some 41, op := Go.Op.move (Go.Operand.tmp 0), type := 123, pos := "hash.go:34", after := #[], guard := none }, { dst := some 42, op := Go.Op.nilCheck (Go.Operand.tmp 41), type := 0, pos := "hash.go:34", after := #[{ on := 5, ground := Go.Ground.data }], guard := none }, { dst := some 43, op := Go.Op.fieldAddr 137 (Go.Operand.tmp 42) 1, type := 0, pos := "hash.go:34", after := #[{ on := 6, ground := Go.Ground.data }], guard := none }, { dst := some 44, op := Go.Op.load 135 (Go.Operand.tmp 43), type := 135, pos := "hash.go:34", after := #[{ on := 7, ground := Go.Ground.data }], guard := none }, { dst := some 45, op := Go.Op.call { callee := Go.Callee.value (Go.Operand.func 106), args := #[Go.Operand.tmp 40, Go.Operand.tmp 44], argTypes := #[133, 135] }, type := 133, pos := "hash.go:34", after := #[{ on := 4, ground := Go.Ground.data }, { on := 8, ground := Go.Ground.data }], guard := none }, { dst := some 46, op := Go.Op.nilCheck (Go.Operand.tmp 36), type := 0, pos := "hash.go:34", after := #[{ on := 0, ground := Go.Ground.data }, { on := 0, ground := Go.Ground.phase }, { on := 1, ground := Go.Ground.phase }, { on := 2, ground := Go.Ground.phase }, { on := 3, ground := Go.Ground.phase }, { on := 4, ground := Go.Ground.phase }, { on := 5, ground := Go.Ground.phase }, { on := 6, ground := Go.Ground.phase }, { on := 7, ground := Go.Ground.phase }, { on := 8, ground := Go.Ground.phase }, { on := 9, ground := Go.Ground.phase }], guard := none }, { dst := some 47, op := Go.Op.fieldAddr 137 (Go.Operand.tmp 46) 0, type := 0, pos := "hash.go:34", after := #[{ on := 10, ground := Go.Ground.data }, { on := 0, ground := Go.Ground.phase }, { on := 1, ground := Go.Ground.phase }, { on := 2, ground := Go.Ground.phase }, { on := 3, ground := Go.Ground.phase }, { on := 4, ground := Go.Ground.phase }, { on := 5, ground := Go.Ground.phase }, { on := 6, ground := Go.Ground.phase }, { on := 7, ground := Go.Ground.phase }, { on := 8, ground := Go.Ground.phase }, { on := 9, ground := Go.Ground.phase }], guard := none }, { dst := none, op := Go.Op.store 133 (Go.Operand.tmp 47) (Go.Operand.tmp 45), type := 0, pos := "hash.go:34", after := #[{ on := 11, ground := Go.Ground.data }, { on := 9, ground := Go.Ground.data }, { on := 9, ground := Go.Ground.chain }, { on := 0, ground := Go.Ground.phase }, { on := 1, ground := Go.Ground.phase }, { on := 2, ground := Go.Ground.phase }, { on := 3, ground := Go.Ground.phase }, { on := 4, ground := Go.Ground.phase }, { on := 5, ground := Go.Ground.phase }, { on := 6, ground := Go.Ground.phase }, { on := 7, ground := Go.Ground.phase }, { on := 8, ground := Go.Ground.phase }, { on := 9, ground := Go.Ground.phase }], guard := none }] true).wp Tryz.prog Q { tmps := #[Value.pointer (some ⟨p, 0, none⟩), u1, u2, u3, u4, u5, u6, u7, u8, u9, u10, u11, u12, u13, u14, u15, u16, u17, u18, u19, u20, u21, u22, u23, u24, u25, u26, u27, u28, u29, u30, u31, u32, u33, u34, u35, u36, u37, u38, u39, u40, u41, u42, u43, u44, u45, u46, u47], defers := [] } w2 := by
  have HC := hide (changed_any w2.drew (hT.later (Fr.refl _ w2).drew) f hfl B)
  have hl51 := load_words (w := w2.drew) hb
  have hl53 := load_block (w := w2.drew) hb
  refine wp_region_any (by kernel_rfl) ?_
  change wpAny _ _ _ _ _ _ _ (World.drew _)
  refine wpAny_take (i := 0) (v := .pointer (some ⟨p, 0, none⟩)) rfl (by kernel_rfl) (by kernel_rfl) (by kernel_rfl) (fun _ _ _ h => hQ _ _ _ _ _ h) (Or.inl ⟨by rfl, fun w => by go_simp⟩) ?_
  refine wpAny_take (i := 1) (v := .pointer (some ⟨p, 0, none⟩)) rfl (by kernel_rfl) (by kernel_rfl) (by kernel_rfl) (fun _ _ _ h => hQ _ _ _ _ _ h) (Or.inl ⟨by rfl, fun w => by go_simp⟩) ?_
  refine wpAny_take (i := 2) (v := .pointer (some ⟨p, 0, none⟩)) rfl (by kernel_rfl) (by kernel_rfl) (by kernel_rfl) (fun _ _ _ h => hQ _ _ _ _ _ h) (Or.inl ⟨by rfl, fun w => by go_simp⟩) ?_
  refine wpAny_take (i := 3) (v := .pointer (some ⟨p, 0, none⟩)) rfl (by kernel_rfl) (by kernel_rfl) (by kernel_rfl) (fun _ _ _ h => hQ _ _ _ _ _ h) (Or.inl ⟨by rfl, fun w => by go_simp⟩) ?_
  refine wpAny_take (i := 5) (v := .pointer (some ⟨p, 0, none⟩)) rfl (by kernel_rfl) (by kernel_rfl) (by kernel_rfl) (fun _ _ _ h => hQ _ _ _ _ _ h) (Or.inl ⟨by rfl, fun w => by go_simp⟩) ?_
  refine wpAny_take (i := 6) (v := .pointer (some ⟨p, 0, none⟩)) rfl (by kernel_rfl) (by kernel_rfl) (by kernel_rfl) (fun _ _ _ h => hQ _ _ _ _ _ h) (Or.inl ⟨by rfl, fun w => by go_simp⟩) ?_
  refine wpAny_take (i := 7) (v := .pointer (some ⟨p, 8, none⟩)) rfl (by kernel_rfl) (by kernel_rfl) (by kernel_rfl) (fun _ _ _ h => hQ _ _ _ _ _ h) (Or.inl ⟨by rfl, fun w => by go_simp⟩) ?_
  refine wpAny_ready (rs := [4, 8]) (by kernel_rfl) (by simp) (ready_load (i := 4) rfl rfl 133 (.tmp 39) rfl (.pointer (some ⟨p, 0, none⟩)) (.agg (arr 8 (wv f))) (by kernel_rfl) hl51 ?_ (ready_load (i := 8) rfl rfl 135 (.tmp 43) rfl (.pointer (some ⟨p, 8, none⟩)) (.agg (arr 64 (bv B))) (by kernel_rfl) hl53 ?_ AllReady.nil))
  · refine wpAny_ready (rs := [8]) (by kernel_rfl) (by simp) (ready_load (i := 8) rfl rfl 135 (.tmp 43) rfl (.pointer (some ⟨p, 8, none⟩)) (.agg (arr 64 (bv B))) (by kernel_rfl) hl53 ?_ AllReady.nil)
    refine wpAny_ready (rs := [9]) (by kernel_rfl) (by simp) (ready_call (i := 9) rfl rfl 106 #[.agg (arr 8 (wv f)), .agg (arr 64 (bv B))] (by kernel_rfl) (unhide HC) ?_ AllReady.nil)
    rintro e w3 ⟨rfl, hF3⟩
    refine ⟨_, rfl, ?_⟩
    refine wpAny_take (i := 10) (v := .pointer (some ⟨p, 0, none⟩)) rfl (by kernel_rfl) (by kernel_rfl) (by kernel_rfl) (fun _ _ _ h => hQ _ _ _ _ _ h) (Or.inl ⟨by rfl, fun w => by go_simp⟩) ?_
    refine wpAny_take (i := 11) (v := .pointer (some ⟨p, 0, none⟩)) rfl (by kernel_rfl) (by kernel_rfl) (by kernel_rfl) (fun _ _ _ h => hQ _ _ _ _ _ h) (Or.inl ⟨by rfl, fun w => by go_simp⟩) ?_
    have hB3 := Blk.later (w := w2.drew) hb hF3
    refine wpAny_ready (rs := [12]) (by kernel_rfl) (by simp) (ready_store (i := 12) rfl rfl 133 (.tmp 47) (.tmp 45) rfl (.pointer (some ⟨p, 0, none⟩)) (.agg (arr 8 (wv (comp f B)))) (by kernel_rfl) (by kernel_rfl) (store_words hB3 (comp f B)) ?_ AllReady.nil)
    refine wpAny_done (by kernel_rfl) ?_ _
    refine q_frame ?_ (h _ (hB3.words (comp f B)) (Fr.setCells (S := fun k => k = p) (a := w2) p (fun _ => rfl) (arr 8 (wv (comp f B))).toList 0 w3 ((Fr.refl _ w2).drew.trans hF3 (fun _ _ t => t.elim))))
    kernel_rfl
  · refine wpAny_ready (rs := [4]) (by kernel_rfl) (by simp) (ready_load (i := 4) rfl rfl 133 (.tmp 39) rfl (.pointer (some ⟨p, 0, none⟩)) (.agg (arr 8 (wv f))) (by kernel_rfl) hl51 ?_ AllReady.nil)
    refine wpAny_ready (rs := [9]) (by kernel_rfl) (by simp) (ready_call (i := 9) rfl rfl 106 #[.agg (arr 8 (wv f)), .agg (arr 64 (bv B))] (by kernel_rfl) (unhide HC) ?_ AllReady.nil)
    rintro e w3 ⟨rfl, hF3⟩
    refine ⟨_, rfl, ?_⟩
    refine wpAny_take (i := 10) (v := .pointer (some ⟨p, 0, none⟩)) rfl (by kernel_rfl) (by kernel_rfl) (by kernel_rfl) (fun _ _ _ h => hQ _ _ _ _ _ h) (Or.inl ⟨by rfl, fun w => by go_simp⟩) ?_
    refine wpAny_take (i := 11) (v := .pointer (some ⟨p, 0, none⟩)) rfl (by kernel_rfl) (by kernel_rfl) (by kernel_rfl) (fun _ _ _ h => hQ _ _ _ _ _ h) (Or.inl ⟨by rfl, fun w => by go_simp⟩) ?_
    have hB3 := Blk.later (w := w2.drew) hb hF3
    refine wpAny_ready (rs := [12]) (by kernel_rfl) (by simp) (ready_store (i := 12) rfl rfl 133 (.tmp 47) (.tmp 45) rfl (.pointer (some ⟨p, 0, none⟩)) (.agg (arr 8 (wv (comp f B)))) (by kernel_rfl) (by kernel_rfl) (store_words hB3 (comp f B)) ?_ AllReady.nil)
    refine wpAny_done (by kernel_rfl) ?_ _
    refine q_frame ?_ (h _ (hB3.words (comp f B)) (Fr.setCells (S := fun k => k = p) (a := w2) p (fun _ => rfl) (arr 8 (wv (comp f B))).toList 0 w3 ((Fr.refl _ w2).drew.trans hF3 (fun _ _ t => t.elim))))
    kernel_rfl

end Go.Proofs.YtabhfeocelljdaaGreatDoor

/- The contract of Write. -/
namespace Go.Proofs.YtabhfeocelljdaaGreatDoor
open Go.RowKit

set_option maxHeartbeats 4000000 in
set_option maxRecDepth 100000 in
theorem hwrite_any (w : World) (hT : TabP w) (p : Nat) (bs : List UInt8) (hH : HAt w p bs) (hp : (1 < p ∧ 3 < p)) (ao : Option Addr) (cap : Nat) (ms : List UInt8) (hB : BAt w ao cap ms) (hcap : ms.length ≤ cap) (hS : Sep ao ms.length p) (hfit : bs.length + ms.length ≤ 1125899906842624) :
    Calls Tryz.prog 98 #[.pointer (some ⟨p, 0, none⟩), .slice ao ms.length cap] w fun e w' => e = .returned (.tuple #[]) ∧ HAt w' p (bs ++ ms) ∧ Fr (fun k => k = p) w w' := by
  have HT := hide hT
  have HI : Hid (BAt w ao cap ms ∧ Sep ao ms.length p ∧ HAt w p bs ∧ Fr (fun k => k = p) w w) := ⟨hB, hS, hH, Fr.refl _ _⟩
  have HM := hide (And.intro hp hfit)
  clear hT hB hS hH hp hfit
  go_enter Tryz.func98, Tryz.ntmps98
  go_wp2
  go_loopw [1, 4] (fun bv _ wr => ∃ don rst ao cap, bv = .slice ao rst.length cap ∧ rst.length ≤ cap ∧ Hid (ms = don ++ rst) ∧ Hid (BAt wr ao cap rst ∧ Sep ao rst.length p ∧ HAt wr p (bs ++ don) ∧ Fr (fun k => k = p) w wr)) (fun bv _ _ => slen bv)
  case atStart => exact ⟨[], ms, ao, cap, rfl, hcap, rfl, by rw [List.append_nil]; exact unhide HI⟩
  case round =>
    clear HI
    obtain ⟨don, rst, ao, cap, rfl, hcap, HD, HS⟩ := hrel
    by_cases h0 : 0 < rst.length
    · obtain ⟨kB, kS, ⟨blk, kH, kR⟩, kF⟩ := unhide HS
      obtain ⟨N, hN⟩ : ∃ N, N = (bs ++ don).length := ⟨_, rfl⟩
      obtain ⟨f, hf⟩ : ∃ f, f = absorb (bs ++ don) ((bs ++ don).length / 64) := ⟨_, rfl⟩
      rw [← hf, ← hN] at kH
      have HK := hide (And.intro kH (And.intro kB (And.intro kS (And.intro kF kR))))
      have c72 := kH.cell 72 (by omega)
      rw [show hcell f blk N 72 = .int .i64 N from rfl] at c72
      have hNl : N ≤ 1125899906842624 ∧ N + rst.length ≤ 1125899906842624 := by
        have h1 := (unhide HM).2
        rw [unhide HD] at h1
        rw [hN]
        simp only [List.length_append] at h1 ⊢
        omega
      obtain ⟨r, hr⟩ : ∃ r, r = N % 64 := ⟨_, rfl⟩
      have hr64 : r < 64 := by omega
      have hrm : (N : Int) % 64 = (r : Int) := by omega
      have hrt : (N : Int).tmod 64 = (r : Int) := by rw [Int.tmod_eq_emod_of_nonneg (by omega)]; exact hrm
      have HN := hide (And.intro hN (And.intro hf hr))
      have hsl := fun w => run_slice_block w p r hr64
      clear HS kB kS kH kR kF hN hf hr
      go_wp2
      obtain ⟨b, off, rfl, _⟩ := (unhide HK).2.1.2.1 h0
      obtain ⟨n, hn⟩ : ∃ n, n = min rst.length (64 - r) := ⟨_, rfl⟩
      have hnb : 0 < n ∧ n ≤ rst.length ∧ n ≤ 64 - r := by omega
      have htk : rst.take (64 - r) = rst.take n := by
        rw [hn]
        by_cases h : rst.length ≤ 64 - r
        · rw [Nat.min_eq_left h, List.take_length, List.take_of_length_le h]
        · rw [Nat.min_eq_right (by omega)]
      have hpl : (rst.take n).length = n := by rw [List.length_take]; omega
      have HT2 := hide (And.intro hn (And.intro htk hpl))
      go_region_law (refine step_copy_hash rfl (.tmp 16) (.tmp 17) rfl p r f blk N (unhide HK).1 hr64 (64 - r) rfl (some ⟨b, off, none⟩) cap rst rfl (unhide HK).2.1 h0 ?_; intro w1 H1 H2)
      rw [← hn]
      rw [htk] at H1
      clear hsl hrm hrt c72 hn htk hpl
      have c72 := (unhide H1).cell 72 (by omega)
      rw [show hcell f (bput blk r (rst.take n)) N 72 = .int .i64 N from rfl] at c72
      have f72 := (unhide H1).frozen 72
      have HB2 := hide ((unhide H1).size (N + n))
      rw [show ((N + n : Nat) : Int) = (N : Int) + (n : Int) by omega] at HB2
      have HF2 := hide (((Fr.refl (fun k => k = p) wr).drew.trans (unhide H2) (fun _ _ t => t)).setCell (p := ⟨p, 72, none⟩) (fun _ => rfl) (.int .i64 ((N : Int) + (n : Int))))
      clear H1 H2
      obtain ⟨hn0, hn1, hn2⟩ := hnb
      by_cases hcn : cap = n
      ·
        by_cases hwh : r + n = 64
        · have hm : (((N : Int) + (n : Int)) % 64 == 0) = true := by
            have := (unhide HN).2.2
            simp; omega
          go_wp2
          generalize (w1.setCell ⟨p, 72, none⟩ (.int .i64 ((N : Int) + (n : Int)))) = w2 at *
          clear c72 f72 hm
          have hTw := ((unhide HT).frame (unhide HK).2.2.2.1 (by have := (unhide HM).1; omega) (by have := (unhide HM).1; omega)).frame (unhide HF2) (by have := (unhide HM).1; omega) (by have := (unhide HM).1; omega)
          have HTW := hide (hTw.later (Fr.refl _ w2).drew)
          clear hTw
          have hfl : ∀ j, f j < 4294967296 := fun j => by rw [(unhide HN).2.1]; exact absorb_lt _ _ _
          have HFL := hide hfl
          clear hfl
          refine region5_any w2 p f (bput blk r (rst.take n)) (N + n) (unhide HB2) (unhide HTW) (unhide HFL) _ _ _ _ _ _ _ _ _ _ _ _ _ _ _ _ _ _ _ _ _ _ _ _ _ _ _ _ _ _ _ _ _ _ _ _ _ _ _ _ _ _ _ _ _ _ _ (fun _ _ _ _ _ h => h) ?_
          intro w4 k1 k2
          have HZ := hide (And.intro ((unhide HF2).trans k2 (fun _ _ t => t)) (hat_whole (unhide HN).1 (unhide HN).2.1 (unhide HN).2.2 (unhide HT2).2.2 (unhide HK).2.2.2.2 hwh k1))
          clear k1 k2 HTW
          go_wp2
          have hw := write_next ⟨b, off, none⟩ (unhide HD) (unhide HK).2.1 (unhide HK).2.2.1 (unhide HK).2.2.2.1 (unhide HT2).1 h0 hcap (fun h => absurd hcn h) (unhide HZ).1 (unhide HZ).2
          rw [hcn, Nat.sub_self] at hw
          exact ⟨hw, by simp [slen]; omega⟩
        · have hm : (((N : Int) + (n : Int)) % 64 == 0) = false := by
            have := (unhide HN).2.2
            simp; omega
          go_wp2
          have hw := write_next ⟨b, off, none⟩ (unhide HD) (unhide HK).2.1 (unhide HK).2.2.1 (unhide HK).2.2.2.1 (unhide HT2).1 h0 hcap (fun h => absurd hcn h) (unhide HF2) (hat_some (unhide HN).1 (unhide HN).2.1 (unhide HN).2.2 (unhide HT2).2.2 (unhide HK).2.2.2.2 (by omega) (unhide HB2))
          rw [hcn, Nat.sub_self] at hw
          exact ⟨hw, by simp [slen]; omega⟩
      ·
        by_cases hwh : r + n = 64
        · have hm : (((N : Int) + (n : Int)) % 64 == 0) = true := by
            have := (unhide HN).2.2
            simp; omega
          go_wp2
          generalize (w1.setCell ⟨p, 72, none⟩ (.int .i64 ((N : Int) + (n : Int)))) = w2 at *
          clear c72 f72 hm
          have hTw := ((unhide HT).frame (unhide HK).2.2.2.1 (by have := (unhide HM).1; omega) (by have := (unhide HM).1; omega)).frame (unhide HF2) (by have := (unhide HM).1; omega) (by have := (unhide HM).1; omega)
          have HTW := hide (hTw.later (Fr.refl _ w2).drew)
          clear hTw
          have hfl : ∀ j, f j < 4294967296 := fun j => by rw [(unhide HN).2.1]; exact absorb_lt _ _ _
          have HFL := hide hfl
          clear hfl
          refine region5_any w2 p f (bput blk r (rst.take n)) (N + n) (unhide HB2) (unhide HTW) (unhide HFL) _ _ _ _ _ _ _ _ _ _ _ _ _ _ _ _ _ _ _ _ _ _ _ _ _ _ _ _ _ _ _ _ _ _ _ _ _ _ _ _ _ _ _ _ _ _ _ (fun _ _ _ _ _ h => h) ?_
          intro w4 k1 k2
          have HZ := hide (And.intro ((unhide HF2).trans k2 (fun _ _ t => t)) (hat_whole (unhide HN).1 (unhide HN).2.1 (unhide HN).2.2 (unhide HT2).2.2 (unhide HK).2.2.2.2 hwh k1))
          clear k1 k2 HTW
          go_wp2
          exact ⟨write_next ⟨b, off + n, none⟩ (unhide HD) (unhide HK).2.1 (unhide HK).2.2.1 (unhide HK).2.2.2.1 (unhide HT2).1 h0 hcap (fun _ => rfl) (unhide HZ).1 (unhide HZ).2, by simp [slen]; omega⟩
        · have hm : (((N : Int) + (n : Int)) % 64 == 0) = false := by
            have := (unhide HN).2.2
            simp; omega
          go_wp2
          exact ⟨write_next ⟨b, off + n, none⟩ (unhide HD) (unhide HK).2.1 (unhide HK).2.2.1 (unhide HK).2.2.2.1 (unhide HT2).1 h0 hcap (fun _ => rfl) (unhide HF2) (hat_some (unhide HN).1 (unhide HN).2.1 (unhide HN).2.2 (unhide HT2).2.2 (unhide HK).2.2.2.2 (by omega) (unhide HB2)), by simp [slen]; omega⟩
    · obtain rfl : rst = [] := List.eq_nil_of_length_eq_zero (by omega)
      have hd := unhide HD
      rw [List.append_nil] at hd
      have HZ := hide (And.intro (unhide HS).2.2.1 (unhide HS).2.2.2)
      rw [← hd] at HZ
      clear hd
      go_wp2
      go_end0
      exact ⟨rfl, unhide HZ⟩

end Go.Proofs.YtabhfeocelljdaaGreatDoor

/- The contracts of a hash's Sum, of Sum. -/
namespace Go.Proofs.YtabhfeocelljdaaGreatDoor
open Go.RowKit

theorem TabP.gt {w : World} (h : TabP w) : (1 < w.heap.size ∧ 3 < w.heap.size) := ⟨World.block_lt_of_cell? _ _ (h.1 0 (by omega)), World.block_lt_of_cell? _ _ (h.2 0 (by omega))⟩

set_option maxRecDepth 20000 in
set_option maxHeartbeats 1000000 in
theorem hsum_any (w : World) (hT : TabP w) (p : Nat) (bs : List UInt8) (hH : HAt w p bs) (hfit : bs.length ≤ 1125899906842000) :
    Calls Tryz.prog 99 #[.pointer (some ⟨p, 0, none⟩)] w fun e w' => ∃ v, e = .returned v ∧ New w (digest bs) v w' := by
  have HT := hide hT
  have HH := hide hH
  clear hT hH
  go_enter Tryz.func99, Tryz.ntmps99
  go_wp2_with fail
  refine (hclone_any w p bs (unhide HH)).mono ?_
  rintro e w1 ⟨q, rfl, h1, h2, h3⟩
  have h72 : w1.cell? ⟨p, 72, none⟩ = some (.int .i64 bs.length) := by
    obtain ⟨blk, hb, _⟩ := (unhide HH).later h2
    exact hb.cell 72 (by omega)
  have H1 := hide (And.intro h1 (And.intro h2 h3))
  clear h1 h2 h3
  go_wp2_with fail
  refine (filling_any w1 bs.length (by omega)).mono ?_
  rintro e w2 ⟨v, rfl, g, hrow, hF, hg⟩
  obtain ⟨ao, cap, rfl, hlc, hmx, had, _⟩ := hrow.shape
  have hfl : (fill bs.length).length ≤ 72 := by rw [fill_length]; omega
  have hbat := (hrow.bat (by omega)).2
  have hpos : 0 < (fill bs.length).length := by rw [fill_length]; omega
  have hsep : Sep ao (fill bs.length).length q := by
    intro b off e _
    rw [had (by omega)] at e
    injection e with e
    injection e with e _
    have := (unhide H1).1.lt
    omega
  have H2 := hide (And.intro hbat (And.intro hsep (And.intro hF hlc)))
  clear hbat hsep hF hg hrow had hlc h72 hmx
  go_wp2_with fail
  refine (hwrite_any w2 (((unhide HT).later (unhide H1).2.1).later (unhide H2).2.2.1) q bs ((unhide H1).1.later (unhide H2).2.2.1) (by have := (unhide HT).gt; have := (unhide H1).2.2; omega) ao cap (fill bs.length) (unhide H2).1 (unhide H2).2.2.2 (unhide H2).2.1 (by omega)).mono ?_
  rintro e w3 ⟨rfl, ⟨blk, k1, _⟩, k3⟩
  have hF3 : Fr (fun _ => False) w w3 := ((unhide H1).2.1.trans (unhide H2).2.2.1 (fun _ _ t => t)).trans k3 (fun i hi t => by have := (unhide H1).2.2; omega)
  obtain ⟨f, hf⟩ : ∃ f, f = absorb (bs ++ fill bs.length) ((bs ++ fill bs.length).length / 64) := ⟨_, rfl⟩
  rw [← hf] at k1
  have H3 := hide (And.intro k1 hF3)
  have hfl2 : ∀ j, f j < 4294967296 := fun j => by rw [hf]; exact absorb_lt _ _ _
  have HL := hide hfl2
  have hd : digest bs = wbytesZ f 8 := by rw [hf]; rfl
  have HD := hide hd
  clear k1 k3 hF3 hf hfl2 hd H2 H1
  go_wp2_with (refine wpList_load_arr rfl 133 (.tmp 15) rfl q 0 rfl 8 (wv f) _ (fun j hj => ?hc) Tryz.underlying133 rfl n51 ?nx)
  case hc =>
    rw [Nat.zero_add, (unhide H3).1.cell j (by omega)]
    unfold hcell wv
    rw [if_pos hj]
  go_wp2_with fail
  refine (bytes_any w3 f (unhide HL)).mono ?_
  rintro e w4 ⟨v, rfl, g4, m1, m2, m3⟩
  have H4 := hide (And.intro m1 (And.intro ((unhide H3).2.trans m2 (fun _ _ t => t)) (Nat.le_trans (unhide H3).2.size m3)))
  clear m1 m2 m3
  go_wp2
  go_ret
  rw [unhide HD]
  exact ⟨_, rfl, g4, unhide H4⟩

theorem sep_row {w : World} {ao : Option Addr} {cap n p : Nat} {bs : List UInt8} (h : BAt w ao cap bs) (hn : bs.length = n) (hp : w.heap.size ≤ p) : Sep ao n p := by
  intro b off e h0
  obtain ⟨b0, off0, e0, hc⟩ := h.2.1 (by omega)
  rw [e] at e0
  injection e0 with e0
  injection e0 with e0 _
  have h9 : b0 < w.heap.size := World.block_lt_of_cell? _ _ (hc 0 (by omega))
  omega

set_option maxRecDepth 20000 in
theorem dsum_any (w : World) (hT : TabP w) (ao : Option Addr) (cap : Nat) (bs : List UInt8) (hB : BAt w ao cap bs) (hcap : bs.length ≤ cap) :
    Calls Tryz.prog 105 #[.slice ao bs.length cap] w fun e w' => ∃ v, e = .returned v ∧ New w (digest bs) v w' := by
  have HT := hide hT
  have HB := hide hB
  clear hT hB
  go_enter Tryz.func105, Tryz.ntmps105
  go_wp2_with fail
  refine (hnew_any w (unhide HT)).mono ?_
  rintro e w1 ⟨p, rfl, h1, h2, h3⟩
  have H1 := hide (And.intro h1 (And.intro h2 h3))
  clear h1 h2 h3
  have hsm := (unhide HB).2.2
  go_wp2_with fail
  refine (hwrite_any w1 ((unhide HT).later (unhide H1).2.1) p [] (unhide H1).1 (by have := (unhide HT).gt; have := (unhide H1).2.2; omega) ao cap bs ((unhide HB).later (unhide H1).2.1) hcap (sep_row (unhide HB) rfl (unhide H1).2.2) (by simp; omega)).mono ?_
  rintro e w2 ⟨rfl, k1, k2⟩
  have hF2 : Fr (fun _ => False) w w2 := (unhide H1).2.1.trans k2 (fun i hi t => by have := (unhide H1).2.2; omega)
  have H2 := hide (And.intro k1 hF2)
  clear k1 k2 hF2 H1
  go_wp2_with fail
  refine (hsum_any w2 ((unhide HT).later (unhide H2).2) p bs (unhide H2).1 (by omega)).mono ?_
  rintro e w3 ⟨v, rfl, g, m1, m2, m3⟩
  have H4 := hide (And.intro m1 (And.intro ((unhide H2).2.trans m2 (fun _ _ t => t)) (Nat.le_trans (unhide H2).2.size m3)))
  clear m1 m2 m3
  go_wp2
  go_ret
  exact ⟨_, rfl, g, unhide H4⟩

end Go.Proofs.YtabhfeocelljdaaGreatDoor

/- Steps of a region that draws its order, under a condition that every later world meets. No function of the program is named here. -/
namespace Go.Proofs.YtabhfeocelljdaaGreatDoor
open Go.RowKit

section
variable {P : Program} {ops : Array Oper} {Q : Exit → Act → World → Prop} {md : Region.Mode} {S : World → Prop} {fuel : Nat} {listed : Array Bool} {a : Act} {w : World} {i : Nat} {o : Oper} {rs : List Nat}

theorem readyH_call (hi : ops[i]? = some o) (hw : Region.wanted o (yielded ops a.tmps) = true) (f : FuncId) (args : Array Value) (hrun : (execOp a.eval o).run P w = .ok (.enter f args) w) {Post : Ending → World → Prop} (hc : Calls P f args w Post)
    (h : ∀ e w', Post e w' → ∃ v, e = .returned v ∧ S w' ∧ wpAnyH P md ops Q S fuel (listed.setIfInBounds i true) (a.put o.dst v) w') (hs : AllReadyH P md ops Q S fuel listed a w rs) : AllReadyH P md ops Q S fuel listed a w (i :: rs) := by
  refine AllReadyH.cons hi (fun K hK => ?_) hs
  rw [if_pos hw]
  unfold Oper.wp
  rw [hrun, Oper.upon_enter]
  refine hc.mono fun e w'' hh => ?_
  obtain ⟨v, rfl, hS, hv⟩ := h e w'' hh
  exact hK.out _ _ hS (fun _ => hv)

/-- An operation whose run is known, and that leaves the world. -/
theorem readyH_run (hi : ops[i]? = some o) (hw : Region.wanted o (yielded ops a.tmps) = true) (v : Value) (hrun : (execOp a.eval o).run P w = .ok (.value v) w) (hS : S w)
    (h : wpAnyH P md ops Q S fuel (listed.setIfInBounds i true) (a.put o.dst v) w) (hs : AllReadyH P md ops Q S fuel listed a w rs) : AllReadyH P md ops Q S fuel listed a w (i :: rs) := by
  refine AllReadyH.cons hi (fun K hK => ?_) hs
  rw [if_pos hw]
  unfold Oper.wp
  rw [hrun]
  exact hK.out _ _ hS (fun _ => h)

theorem exec_conv {w : World} {a : Act} {o : Oper} (t1 t2 : TypeId) (x : Operand) (ho : o.op = .convert t1 t2 x) (xv v : Value) (hx : a.eval x = xv) (hrun : (convert t1 t2 xv).run P w = .ok v w) : (execOp a.eval o).run P w = .ok (.value v) w := by
  unfold execOp
  simp only [ho, hx, Sem.run_bind, hrun, Result.andThen_ok, Sem.run_pure]
end

end Go.Proofs.YtabhfeocelljdaaGreatDoor

/- The region of HashApart that draws its order. -/
namespace Go.Proofs.YtabhfeocelljdaaGreatDoor
open Go.RowKit

section
variable {P : Program} {ops : Array Oper} {Q : Exit → Act → World → Prop} {md : Region.Mode} {S : World → Prop} {fuel : Nat} {listed : Array Bool} {a : Act} {w : World} {i : Nat} {o : Oper} {rs : List Nat}
/-- An operation whose run is known. -/
theorem readyH_runw (hi : ops[i]? = some o) (hw : Region.wanted o (yielded ops a.tmps) = true) (v : Value) (w' : World) (hrun : (execOp a.eval o).run P w = .ok (.value v) w') (hS : S w')
    (h : wpAnyH P md ops Q S fuel (listed.setIfInBounds i true) (a.put o.dst v) w') (hs : AllReadyH P md ops Q S fuel listed a w rs) : AllReadyH P md ops Q S fuel listed a w (i :: rs) := by
  refine AllReadyH.cons hi (fun K hK => ?_) hs
  rw [if_pos hw]
  unfold Oper.wp
  rw [hrun]
  exact hK.out _ _ hS (fun _ => h)
theorem exec_appendZ {w w' : World} {a : Act} {o : Oper} (t tx ty : TypeId) (hty : o.type = ty) (s x : Operand) (ho : o.op = .call { callee := .builtin .append, args := #[s, x], argTypes := #[t, tx] }) (sv xv : Value) {v : Value} (hs : a.eval s = sv) (hx : a.eval x = xv) (hrun : (Builtin.append_ #[t, tx] ty #[sv, xv]).run P w = .ok v w') : (execOp a.eval o).run P w = .ok (.value v) w' := by
  subst hty
  simp [execOp, ho, resolve, invoke, builtin, hs, hx, hrun, Result.andThen]
end
theorem World.size_alloc_le (w : World) (o : Obj) : w.heap.size ≤ (w.alloc o).heap.size := by simp

end Go.Proofs.YtabhfeocelljdaaGreatDoor

/- The mathematics of a mac: a secret's padZ, a padZ under a number, what bytes come to under a secret. No program is named here. -/
namespace Go.Proofs.YtabhfeocelljdaaGreatDoor

def keyed (s : List UInt8) : List UInt8 := if 64 < s.length then digest s else s
/-- Bytes brought to sixty-four. -/
def to64 (k : List UInt8) : List UInt8 := k ++ List.replicate (64 - k.length) 0
def padZ (s : List UInt8) : List UInt8 := to64 (keyed s)
def und (p : List UInt8) (x : UInt8) : List UInt8 := p.map (· ^^^ x)
def hmac (s b : List UInt8) : List UInt8 := digest (und (padZ s) 92 ++ digest (und (padZ s) 54 ++ b))

theorem dig_len (bs : List UInt8) : (digest bs).length = 32 := by unfold digest; rw [wbytes_length]
theorem keyed_le (s : List UInt8) : (keyed s).length ≤ 64 := by
  unfold keyed
  split
  · rw [dig_len]; omega
  · omega
theorem to64_length (k : List UInt8) (h : k.length ≤ 64) : (to64 k).length = 64 := by
  unfold to64
  rw [List.length_append, List.length_replicate]; omega
theorem pad_length (s : List UInt8) : (padZ s).length = 64 := to64_length _ (keyed_le s)
theorem und_length (p : List UInt8) (x : UInt8) : (und p x).length = p.length := by unfold und; simp
theorem hmac_length (s b : List UInt8) : (hmac s b).length = 32 := dig_len _

theorem to64_get (k : List UInt8) (j : Nat) (hj : j < (to64 k).length) : (to64 k)[j] = if h : j < k.length then k[j] else 0 := by
  simp only [to64, List.getElem_append]
  split
  · rfl
  · simp

theorem pad_long (s : List UInt8) (h : 64 < s.length) : padZ (digest s) = padZ s := by
  have e1 : keyed s = digest s := by unfold keyed; rw [if_pos h]
  have e2 : keyed (digest s) = digest s := by
    have : ¬ 64 < (digest s).length := by rw [dig_len]; omega
    conv => lhs; unfold keyed
    rw [if_neg this]
  unfold padZ
  rw [e1, e2]

theorem pad_zeros (s : List UInt8) (k : Nat) (h : s.length + k ≤ 64) : padZ (s ++ List.replicate k 0) = padZ s := by
  have e1 : keyed s = s := by unfold keyed; rw [if_neg (by omega)]
  have e2 : keyed (s ++ List.replicate k 0) = s ++ List.replicate k 0 := by unfold keyed; rw [if_neg (by simp; omega)]
  unfold padZ
  rw [e1, e2]
  unfold to64
  rw [List.append_assoc, List.replicate_append_replicate, List.length_append, List.length_replicate]
  congr 2
  omega

theorem hmac_pad {s t : List UInt8} (h : padZ s = padZ t) (b : List UInt8) : hmac s b = hmac t b := by unfold hmac; rw [h]

end Go.Proofs.YtabhfeocelljdaaGreatDoor

