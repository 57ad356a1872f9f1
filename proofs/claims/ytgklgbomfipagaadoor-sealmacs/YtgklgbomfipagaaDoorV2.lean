/- The document's own Mac, Key and Token. -/
import Derived.Test.YtgklgbomfipagaaDoorV1
import Derived.Test.YtgklgbomfipagaaDoorT1
namespace Go.Proofs.YtgklgbomfipagaaDoor
open Go.RowKit

theorem rmac_long (w : World) (s : List UInt8) (hs : 200 < s.length) (bv : Value) :
    Calls Tryd.prog 13 #[.string ⟨s.toArray⟩, bv] w fun e w' => e = .returned (.tuple #[.slice none 0 0, .int .i64 2]) ∧ w' = w := by
  have hd : decide ((200 : Int) < (s.length : Int)) = true := by simp; omega
  go_enter Tryd.func13, Tryd.ntmps13
  go_wp2
  go_ret2
  exact ⟨rfl, rfl⟩

/-- append, with the lengths as letters. -/
theorem wpList_append_n {P : Program} (w : World) {ops : Array Oper} {rest : List Oper} {o : Oper} {a : Act} {Q : Exit → Act → World → Prop} (hgd : o.guard = none) (s x : Operand) (t tx : TypeId)
    (ho : o.op = .call { callee := .builtin .append, args := #[s, x], argTypes := #[t, tx] }) (e : TypeId) (i : TypeInfo) (ht : P.underlying t = some (.slice e)) (hi : P.info? e = some i) (hz : i.zero = some (.int .u8 0)) (hs1 : i.size = 1) (hby : i.bytes = 1)
    {ao : Option Addr} {n cap g : Nat} {bs : List UInt8} (hv : a.eval s = .slice ao n cap) (h : Row w (.slice ao n cap) g bs) (xv : Value) (ms : List UInt8) (m : Nat) (hx : a.eval x = xv) (hm : ms.length = m) (hs : Src P 1 tx xv m (bytesV ms) w) (hfit : n + m ≤ 140737488355328)
    (hK : ∀ ao' cap' w' g', Row w' (.slice ao' (n + m) cap') g' (bs ++ ms) → Fr (fun k => k = g ∧ 0 < cap) w w' → ((g' = g ∧ cap' = cap) ∨ w.heap.size ≤ g') → wpList P ops Q rest (a.put o.dst (.slice ao' (n + m) cap')) w') : wpList P ops Q (o :: rest) a w := by
  have hn : n = bs.length := by
    obtain ⟨_, _, e, _⟩ := h.shape
    injection e
  subst hn hm
  exact wpList_append_row w hgd s x t tx ho e i ht hi hz hs1 hby hv h xv ms hx hs hfit hK

set_option maxHeartbeats 1000000 in
theorem rmac_any (w : World) (hT : TabR w) (s : List UInt8) (hs : s.length ≤ 200) (bo : Option Addr) (bcap : Nat) (bs : List UInt8) (hB : BAt w bo bcap bs) (hfit : bs.length + 136 ≤ 140737488355328) :
    Calls Tryd.prog 13 #[.string ⟨s.toArray⟩, .slice bo bs.length bcap] w fun e w' => ∃ ao cap, e = .returned (.tuple #[.slice ao 32 cap, .int .i64 0]) ∧ New w (hmac s bs) (.slice ao 32 cap) w' := by
  have HT := hide hT
  have HB := hide hB
  clear hT hB
  have hd : decide ((200 : Int) < (s.length : Int)) = false := by simp; omega
  obtain ⟨i0, hi, hz0, hz1, hz2⟩ := info_parts Tryd.info5
  have HI := hide hi
  clear hi
  go_enter Tryd.func13, Tryd.ntmps13
  go_wp2_with fail
  refine (runder_any w (unhide HT) s hs 54).mono ?_
  rintro e w1 ⟨ao, cap, rfl, g1, r1, r2, r3⟩
  have H1 := hide (And.intro r1 (And.intro r2 r3))
  clear r1 r2 r3
  go_wp2_with (at_builtin; refine wpList_append_n _ rfl (.tmp 14) (.tmp 15) 22 22 rfl 5 i0 Tryd.underlying22 (unhide HI) hz0 hz1 hz2 (ao := ao) (n := 64) (cap := cap) (g := g1) (bs := und (pad s) 54) rfl (unhide H1).1 _ bs bs.length rfl rfl ?hs (by omega) ?nx)
  case hs => exact src_slice Tryd.underlying22 _ _ _ bs ((unhide HB).later (unhide H1).2.1).2.1
  intro ao2 cap2 w2 g2 hrow hF hg
  have hF2 : Fr (fun _ => False) w w2 := (unhide H1).2.1.trans hF (fun i hi t => by have := (unhide H1).2.2; omega)
  have hb2 := hrow.batn (by omega)
  have HS := hide (rsum_any w2 ((unhide HT).later hF2) ao2 cap2 (und (pad s) 54 ++ bs) hb2.1 (by rw [hb2.2.1]; omega))
  rw [hb2.2.1] at HS
  have HF2 := hide hF2
  clear hrow hF hg hF2 hb2 H1
  go_wp2_with fail
  refine (unhide HS).mono ?_
  rintro e w3 ⟨v, rfl, g3, r1, r2, r3⟩
  obtain ⟨mo, mc, rfl, _⟩ := r1.shape
  rw [dig_len] at r1 ⊢
  have hb3 := r1.batn (by omega)
  have hF3 := (unhide HF2).trans r2 (fun _ _ t => t)
  have H3 := hide (And.intro hb3.1 hF3)
  clear r1 r2 r3 hb3 hF3 HS HF2
  go_wp2_with fail
  refine (runder_any w3 ((unhide HT).later (unhide H3).2) s hs 92).mono ?_
  rintro e w4 ⟨ao4, cap4, rfl, g4, r1, r2, r3⟩
  have hsrc := src_slice Tryd.underlying22 w4 mo mc (digest (und (pad s) 54 ++ bs)) ((unhide H3).1.later r2).2.1
  rw [dig_len] at hsrc
  have H4 := hide (And.intro r1 (And.intro ((unhide H3).2.trans r2 (fun _ _ t => t)) (And.intro (Nat.le_trans (unhide H3).2.size r3) hsrc)))
  clear r1 r2 r3 hsrc H3
  go_wp2_with (at_builtin; refine wpList_append_n _ rfl (.tmp 21) (.tmp 22) 22 22 rfl 5 i0 Tryd.underlying22 (unhide HI) hz0 hz1 hz2 (ao := ao4) (n := 64) (cap := cap4) (g := g4) (bs := und (pad s) 92) rfl (unhide H4).1 _ (digest (und (pad s) 54 ++ bs)) 32 rfl (dig_len _) (unhide H4).2.2.2 (by omega) ?nx4)
  intro ao5 cap5 w5 g5 hrow hF hg
  have hF5 : Fr (fun _ => False) w w5 := (unhide H4).2.1.trans hF (fun i hi t => by have := (unhide H4).2.2.1; omega)
  have hb5 := hrow.batn (by omega)
  have HS := hide (rsum_any w5 ((unhide HT).later hF5) ao5 cap5 (und (pad s) 92 ++ digest (und (pad s) 54 ++ bs)) hb5.1 (by rw [hb5.2.1]; omega))
  rw [hb5.2.1] at HS
  have HF5 := hide hF5
  clear hrow hF hg hF5 hb5 H4
  go_wp2_with fail
  refine (unhide HS).mono ?_
  rintro e w6 ⟨v, rfl, hN⟩
  have hN6 : New w (hmac s bs) v w6 := hN.on (unhide HF5)
  obtain ⟨ro, rc, rfl⟩ : ∃ ao cap, v = .slice ao 32 cap := by
    obtain ⟨g, r, _⟩ := hN6
    obtain ⟨ao, cap, e, _⟩ := r.shape
    rw [hmac_length] at e
    exact ⟨ao, cap, e⟩
  have H6 := hide hN6
  clear hN hN6 HS
  go_wp2
  go_ret2
  exact ⟨_, _, rfl, unhide H6⟩

theorem rkey_long (w : World) (s : List UInt8) (hs : 200 < s.length) (dv : Value) :
    Calls Tryd.prog 18 #[.string ⟨s.toArray⟩, dv] w fun e w' => e = .returned (.tuple #[.string ⟨#[]⟩, .int .i64 2]) ∧ w' = w := by
  have hd : decide ((200 : Int) < (s.length : Int)) = true := by simp; omega
  go_enter Tryd.func18, Tryd.ntmps18
  go_wp2
  go_ret2
  exact ⟨rfl, rfl⟩

theorem rkey_bad (w : World) (s : List UInt8) (hs : s.length ≤ 200) (d : Int) (hd : d < 0 ∨ 65535 < d) :
    Calls Tryd.prog 18 #[.string ⟨s.toArray⟩, .int .i64 d] w fun e w' => e = .returned (.tuple #[.string ⟨#[]⟩, .int .i64 1]) ∧ w' = w := by
  have hl : decide ((200 : Int) < (s.length : Int)) = false := by simp; omega
  by_cases h0 : d < 0
  · have h1 : decide (d < 0) = true := decide_eq_true h0
    clear hd
    go_enter Tryd.func18, Tryd.ntmps18
    go_wp2
    go_ret2
    exact ⟨rfl, rfl⟩
  · have h1 : decide (d < 0) = false := decide_eq_false h0
    have h2 : decide (65535 < d) = true := decide_eq_true (by omega)
    clear hd h0
    go_enter Tryd.func18, Tryd.ntmps18
    go_wp2
    go_ret2
    exact ⟨rfl, rfl⟩

set_option maxHeartbeats 1000000 in
theorem rkey_any (w : World) (hT : TabR w) (s : List UInt8) (hs : s.length ≤ 200) (d : Nat) (hd : d ≤ 65535) :
    Calls Tryd.prog 18 #[.string ⟨s.toArray⟩, .int .i64 d] w fun e w' => e = .returned (.tuple #[.string ⟨(hmac s (devB d)).toArray⟩, .int .i64 0]) ∧ Fr (fun _ => False) w w' := by
  have HT := hide hT
  clear hT
  obtain ⟨i0, hi, hz0, hz1, hz2⟩ := info_parts Tryd.info5
  have HI := hide hi
  clear hi
  have hcv := fun (w : World) (C : Array Value) (n c : Nat) => Lib.run_convert_bytes_const (P := Tryd.prog) w 22 5 C n c Tryd.underlying22 Tryd.underlying5
  have hl : decide ((200 : Int) < (s.length : Int)) = false := by simp; omega
  have h1 : decide ((d : Int) < 0) = false := decide_eq_false (by omega)
  have h2 : decide (65535 < (d : Int)) = false := decide_eq_false (by omega)
  go_enter Tryd.func18, Tryd.ntmps18
  go_wp2_with (at_builtin; refine wpList_append_row _ rfl (.tmp 20) (.tmp 27) 22 22 rfl 5 i0 Tryd.underlying22 (unhide HI) hz0 hz1 hz2 (ao := some ⟨w.heap.size, 0, none⟩) (cap := 6) (g := w.heap.size) (bs := [100, 101, 118, 105, 99, 101]) rfl ?hr _ [UInt8.ofNat (d / 256), UInt8.ofNat d] rfl ?hs ?hf ?nx)
  case hr =>
    have hm := Row.mark w #[.int .u8 100, .int .u8 101, .int .u8 118, .int .u8 105, .int .u8 99, .int .u8 101] 5 [100, 101, 118, 105, 99, 101] 6 rfl (by simp [maxLen]) (by simp) (fun j hj => lit_get [100, 101, 118, 105, 99, 101] j hj)
    exact hm.stay (fun h => Below.heap_alloc _ _ _ h)
  case hs =>
    have h2 := src_new (w.alloc (.cells #[.int .u8 100, .int .u8 101, .int .u8 118, .int .u8 105, .int .u8 99, .int .u8 101] 5 (6, 7))) [UInt8.ofNat (d / 256), UInt8.ofNat d] (w.heap.size + 1) (by simp) (by simp)
    rw [← lit2 d hd] at h2
    exact h2
  case hf => simp
  intro ao cap w2 g hrow hF hg
  have hF2 : Fr (fun _ => False) w w2 := (((Fr.refl (fun _ => False) w).alloc _).alloc _).trans hF (fun i hi t => by omega)
  have hrow2 : Row w2 (.slice ao 8 cap) g (devB d) := hrow
  have hb := hrow2.batn (by omega)
  have HM := hide (rmac_any w2 ((unhide HT).later hF2) s hs ao cap (devB d) hb.1 (by simp [devB]))
  have HF := hide hF2
  have hl8 : (devB d).length = 8 := rfl
  rw [hl8] at HM
  clear hrow hrow2 hF hg hF2 hb hl8 hcv
  go_wp2_with fail
  refine (unhide HM).mono ?_
  rintro e w3 ⟨ro, rc, rfl, g3, r1, r2, r3⟩
  have hb3 := r1.batn (by omega)
  have cv := conv_bytes hb3.1
  rw [hb3.2.1] at cv
  have HF3 := hide ((unhide HF).trans r2 (fun _ _ t => t))
  clear r1 r2 r3 hb3 HM
  go_wp2
  go_ret2
  exact ⟨rfl, unhide HF3⟩

theorem rtoken_long (w : World) (s : List UInt8) (hs : 200 < s.length) (cv : Value) :
    Calls Tryd.prog 19 #[.string ⟨s.toArray⟩, cv] w fun e w' => e = .returned (.tuple #[.string ⟨#[]⟩, .int .i64 2]) ∧ w' = w := by
  have hd : decide ((200 : Int) < (s.length : Int)) = true := by simp; omega
  go_enter Tryd.func19, Tryd.ntmps19
  go_wp2
  go_ret2
  exact ⟨rfl, rfl⟩

theorem rtoken_bad (w : World) (s : List UInt8) (hs : s.length ≤ 200) (c : List UInt8) (hc : c.length = 0 ∨ 64 < c.length) :
    Calls Tryd.prog 19 #[.string ⟨s.toArray⟩, .string ⟨c.toArray⟩] w fun e w' => e = .returned (.tuple #[.string ⟨#[]⟩, .int .i64 1]) ∧ w' = w := by
  have hl : decide ((200 : Int) < (s.length : Int)) = false := by simp; omega
  by_cases h0 : c.length = 0
  · have h1 : decide ((c.length : Int) < 1) = true := decide_eq_true (by omega)
    clear hc h0
    go_enter Tryd.func19, Tryd.ntmps19
    go_wp2
    go_ret2
    exact ⟨rfl, rfl⟩
  · have h1 : decide ((c.length : Int) < 1) = false := decide_eq_false (by omega)
    have h2 : decide (64 < (c.length : Int)) = true := decide_eq_true (by omega)
    clear hc h0
    go_enter Tryd.func19, Tryd.ntmps19
    go_wp2
    go_ret2
    exact ⟨rfl, rfl⟩

set_option maxHeartbeats 1000000 in
theorem rtoken_any (w : World) (hT : TabR w) (s : List UInt8) (hs : s.length ≤ 200) (c : List UInt8) (hc1 : 1 ≤ c.length) (hc2 : c.length ≤ 64) :
    Calls Tryd.prog 19 #[.string ⟨s.toArray⟩, .string ⟨c.toArray⟩] w fun e w' => e = .returned (.tuple #[.string ⟨((hmac s (tokB c)).take 8).toArray⟩, .int .i64 0]) ∧ Fr (fun _ => False) w w' := by
  have HT := hide hT
  clear hT
  have hl : decide ((200 : Int) < (s.length : Int)) = false := by simp; omega
  have h1 : decide ((c.length : Int) < 1) = false := decide_eq_false (by omega)
  have h2 : decide (64 < (c.length : Int)) = false := decide_eq_false (by omega)
  have hba : ((⟨#[116, 111, 107, 101, 110]⟩ : ByteArray) ++ (⟨c.toArray⟩ : ByteArray)) = ⟨(tokB c).toArray⟩ := ba_append [116, 111, 107, 101, 110] c c.toArray rfl
  have htl : (tokB c).length = 5 + c.length := by unfold tokB; simp; omega
  obtain ⟨C, w1, hcv, H1⟩ := conv_str w (tokB c) (by omega)
  have hb1 := (unhide H1).1.batn (by omega)
  have HM := hide (rmac_any w1 ((unhide HT).later (unhide H1).2.1) s hs _ C (tokB c) hb1.1 (by omega))
  have HF := hide (unhide H1).2.1
  rw [htl] at HM hcv
  clear hb1 htl H1
  go_enter Tryd.func19, Tryd.ntmps19
  go_wp2_with fail
  refine (unhide HM).mono ?_
  rintro e w3 ⟨ro, rc, rfl, g3, r1, r2, r3⟩
  have h32 := (r1.batn (by omega)).2.2
  have hb3 := (r1.front 8 (by omega)).batn (by omega)
  have cv := conv_bytes hb3.1
  rw [hb3.2.1] at cv
  have HF3 := hide ((unhide HF).trans r2 (fun _ _ t => t))
  clear r1 r2 r3 hb3 HM
  go_wp2
  go_ret2
  exact ⟨rfl, unhide HF3⟩

end Go.Proofs.YtgklgbomfipagaaDoor
