/- The contracts of Mac, Key, Token. -/
import Derived.Test.YtgklgbomfipagaaDoorS4
import Derived.Lib.SlBytesConst
namespace Go.Proofs.YtgklgbomfipagaaDoor
open Go.RowKit

theorem macP_long (w : World) (s : List UInt8) (hs : 200 < s.length) (bv : Value) :
    Calls Tryd.prog 11 #[.string ⟨s.toArray⟩, bv] w fun e w' => e = .returned (.tuple #[.slice none 0 0, .int .i64 2]) ∧ w' = w := by
  go_enter Tryd.func11, Tryd.ntmps11
  go_wp2_with fail
  refine (islong_any w s).mono ?_
  rintro e w1 ⟨rfl, rfl⟩
  rw [decide_eq_true hs]
  go_wp2
  go_ret2
  exact ⟨rfl, rfl⟩

theorem macP_any (w : World) (hT : TabP w) (s : List UInt8) (hs : s.length ≤ 200) (bo : Option Addr) (bcap : Nat) (bs : List UInt8) (hB : BAt w bo bcap bs) (hcap : bs.length ≤ bcap) :
    Calls Tryd.prog 11 #[.string ⟨s.toArray⟩, .slice bo bs.length bcap] w fun e w' => ∃ ao cap, e = .returned (.tuple #[.slice ao 32 cap, .int .i64 0]) ∧ New w (hmac s bs) (.slice ao 32 cap) w' := by
  have HM := hide (mac_any w hT s hs bo bcap bs hB hcap)
  clear hT hB
  go_enter Tryd.func11, Tryd.ntmps11
  go_wp2_with fail
  refine (islong_any w s).mono ?_
  rintro e w1 ⟨rfl, rfl⟩
  rw [decide_eq_false (by omega)]
  go_wp2_with fail
  refine (unhide HM).mono ?_
  rintro e w1 ⟨ao, cap, rfl, hN⟩
  have HN := hide hN
  clear hN HM
  go_wp2
  go_ret2
  exact ⟨_, _, rfl, unhide HN⟩

theorem key_long (w : World) (s : List UInt8) (hs : 200 < s.length) (dv : Value) :
    Calls Tryd.prog 16 #[.string ⟨s.toArray⟩, dv] w fun e w' => e = .returned (.tuple #[.string ⟨#[]⟩, .int .i64 2]) ∧ w' = w := by
  go_enter Tryd.func16, Tryd.ntmps16
  go_wp2_with fail
  refine (islong_any w s).mono ?_
  rintro e w1 ⟨rfl, rfl⟩
  rw [decide_eq_true hs]
  go_wp2
  go_ret2
  exact ⟨rfl, rfl⟩

theorem key_bad (w : World) (s : List UInt8) (hs : s.length ≤ 200) (d : Int) (hd : d < 0 ∨ 65535 < d) :
    Calls Tryd.prog 16 #[.string ⟨s.toArray⟩, .int .i64 d] w fun e w' => e = .returned (.tuple #[.string ⟨#[]⟩, .int .i64 1]) ∧ w' = w := by
  go_enter Tryd.func16, Tryd.ntmps16
  go_wp2_with fail
  refine (islong_any w s).mono ?_
  rintro e w1 ⟨rfl, rfl⟩
  rw [decide_eq_false (by omega)]
  by_cases h0 : d < 0
  · have h1 : decide (d < 0) = true := decide_eq_true h0
    clear hd
    go_wp2
    go_ret2
    exact ⟨rfl, rfl⟩
  · have h1 : decide (d < 0) = false := decide_eq_false h0
    have h2 : decide (65535 < d) = true := decide_eq_true (by omega)
    clear hd h0
    go_wp2
    go_ret2
    exact ⟨rfl, rfl⟩

theorem lit_get (l : List UInt8) (j : Nat) (hj : j < l.length) : (bytesV l).toArray[j]? = some (.int .u8 l[j].toNat) := by
  rw [List.getElem?_toArray, bytesV_get _ _ hj]
theorem src_new (w : World) (bs : List UInt8) (n : Nat) (hn : w.heap.size = n) (hm : bs.length ≤ 140737488355328) : Src Tryd.prog 1 22 (.slice (some ⟨n, 0, none⟩) bs.length bs.length) bs.length (bytesV bs) (w.alloc (.cells (bytesV bs).toArray 5)) := by
  subst hn
  exact src_slice Tryd.underlying22 _ _ _ bs (bat_lit w bs 5 (0, 0) hm).2.1
theorem lit2 (d : Nat) (hd : d ≤ 65535) : #[Value.int .u8 ((d : Int) / 256), .int .u8 ((d : Int) % 256)] = (bytesV [UInt8.ofNat (d / 256), UInt8.ofNat d]).toArray := by
  simp [bytesV]
  omega

/-- The bytes that tell of a device; those that tell of a card. -/
def devB (d : Nat) : List UInt8 := [100, 101, 118, 105, 99, 101, UInt8.ofNat (d / 256), UInt8.ofNat d]
def tokB (c : List UInt8) : List UInt8 := [116, 111, 107, 101, 110] ++ c

set_option maxHeartbeats 1000000 in
theorem key_any (w : World) (hT : TabP w) (s : List UInt8) (hs : s.length ≤ 200) (d : Nat) (hd : d ≤ 65535) :
    Calls Tryd.prog 16 #[.string ⟨s.toArray⟩, .int .i64 d] w fun e w' => e = .returned (.tuple #[.string ⟨(hmac s (devB d)).toArray⟩, .int .i64 0]) ∧ Fr (fun _ => False) w w' := by
  have HT := hide hT
  clear hT
  obtain ⟨i0, hi, hz0, hz1, hz2⟩ := info_parts Tryd.info5
  have HI := hide hi
  clear hi
  have hcv := fun (w : World) (C : Array Value) (n c : Nat) => Lib.run_convert_bytes_const (P := Tryd.prog) w 22 5 C n c Tryd.underlying22 Tryd.underlying5
  go_enter Tryd.func16, Tryd.ntmps16
  go_wp2_with fail
  refine (islong_any w s).mono ?_
  rintro e w1 ⟨rfl, rfl⟩
  rw [decide_eq_false (by omega)]
  have h1 : decide ((d : Int) < 0) = false := decide_eq_false (by omega)
  have h2 : decide (65535 < (d : Int)) = false := decide_eq_false (by omega)
  go_wp2_with (at_builtin; refine wpList_append_row _ rfl (.tmp 16) (.tmp 22) 22 22 rfl 5 i0 Tryd.underlying22 (unhide HI) hz0 hz1 hz2 (ao := some ⟨w1.heap.size, 0, none⟩) (cap := 6) (g := w1.heap.size) (bs := [100, 101, 118, 105, 99, 101]) rfl ?hr _ [UInt8.ofNat (d / 256), UInt8.ofNat d] rfl ?hs ?hf ?nx)
  case hr =>
    have hm := Row.mark w1 #[.int .u8 100, .int .u8 101, .int .u8 118, .int .u8 105, .int .u8 99, .int .u8 101] 5 [100, 101, 118, 105, 99, 101] 6 rfl (by simp [maxLen]) (by simp) (fun j hj => lit_get [100, 101, 118, 105, 99, 101] j hj)
    exact hm.stay (fun h => Below.heap_alloc _ _ _ h)
  case hs =>
    have h2 := src_new (w1.alloc (.cells #[.int .u8 100, .int .u8 101, .int .u8 118, .int .u8 105, .int .u8 99, .int .u8 101] 5 (6, 7))) [UInt8.ofNat (d / 256), UInt8.ofNat d] (w1.heap.size + 1) (by simp) (by simp)
    rw [← lit2 d hd] at h2
    exact h2
  case hf => simp
  intro ao cap w2 g hrow hF hg
  have hF2 : Fr (fun _ => False) w1 w2 := (((Fr.refl (fun _ => False) w1).alloc _).alloc _).trans hF (fun i hi t => by omega)
  have hrow2 : Row w2 (.slice ao 8 cap) g (devB d) := hrow
  have hb := hrow2.batn (by omega)
  have HM := hide (mac_any w2 ((unhide HT).later hF2) s hs ao cap (devB d) hb.1 hb.2.2)
  have HF := hide hF2
  have hl : (devB d).length = 8 := rfl
  rw [hl] at HM
  clear hrow hrow2 hF hg hF2 hb hl hcv
  go_wp2_with fail
  refine (unhide HM).mono ?_
  rintro e w3 ⟨ro, rc, rfl, g3, r1, r2, r3⟩
  have hb3 := r1.batn (by omega)
  have cv := conv_bytes hb3.1
  rw [hb3.2.1] at cv
  have HF3 := hide ((unhide HF).trans r2 (fun _ _ t => t))
  clear r1 r2 r3 hb3 HM
  go_wp2
  go_ret2
  exact ⟨rfl, unhide HF3⟩

theorem token_long (w : World) (s : List UInt8) (hs : 200 < s.length) (cv : Value) :
    Calls Tryd.prog 17 #[.string ⟨s.toArray⟩, cv] w fun e w' => e = .returned (.tuple #[.string ⟨#[]⟩, .int .i64 2]) ∧ w' = w := by
  go_enter Tryd.func17, Tryd.ntmps17
  go_wp2_with fail
  refine (islong_any w s).mono ?_
  rintro e w1 ⟨rfl, rfl⟩
  rw [decide_eq_true hs]
  go_wp2
  go_ret2
  exact ⟨rfl, rfl⟩

theorem token_bad (w : World) (s : List UInt8) (hs : s.length ≤ 200) (c : List UInt8) (hc : c.length = 0 ∨ 64 < c.length) :
    Calls Tryd.prog 17 #[.string ⟨s.toArray⟩, .string ⟨c.toArray⟩] w fun e w' => e = .returned (.tuple #[.string ⟨#[]⟩, .int .i64 1]) ∧ w' = w := by
  go_enter Tryd.func17, Tryd.ntmps17
  go_wp2_with fail
  refine (islong_any w s).mono ?_
  rintro e w1 ⟨rfl, rfl⟩
  rw [decide_eq_false (by omega)]
  by_cases h0 : c.length = 0
  · have h1 : decide ((c.length : Int) < 1) = true := decide_eq_true (by omega)
    clear hc h0
    go_wp2
    go_ret2
    exact ⟨rfl, rfl⟩
  · have h1 : decide ((c.length : Int) < 1) = false := decide_eq_false (by omega)
    have h2 : decide (64 < (c.length : Int)) = true := decide_eq_true (by omega)
    clear hc h0
    go_wp2
    go_ret2
    exact ⟨rfl, rfl⟩

set_option maxHeartbeats 1000000 in
theorem token_any (w : World) (hT : TabP w) (s : List UInt8) (hs : s.length ≤ 200) (c : List UInt8) (hc1 : 1 ≤ c.length) (hc2 : c.length ≤ 64) :
    Calls Tryd.prog 17 #[.string ⟨s.toArray⟩, .string ⟨c.toArray⟩] w fun e w' => e = .returned (.tuple #[.string ⟨((hmac s (tokB c)).take 8).toArray⟩, .int .i64 0]) ∧ Fr (fun _ => False) w w' := by
  have HT := hide hT
  clear hT
  obtain ⟨i0, hi, hz0, hz1, hz2⟩ := info_parts Tryd.info5
  have HI := hide hi
  clear hi
  have hcv := fun (w : World) (C : Array Value) (n c : Nat) => Lib.run_convert_bytes_const (P := Tryd.prog) w 22 5 C n c Tryd.underlying22 Tryd.underlying5
  go_enter Tryd.func17, Tryd.ntmps17
  go_wp2_with fail
  refine (islong_any w s).mono ?_
  rintro e w1 ⟨rfl, rfl⟩
  rw [decide_eq_false (by omega)]
  have h1 : decide ((c.length : Int) < 1) = false := decide_eq_false (by omega)
  have h2 : decide (64 < (c.length : Int)) = false := decide_eq_false (by omega)
  go_wp2_with (at_builtin; refine wpList_append_row _ rfl (.tmp 18) (.tmp 19) 22 9 rfl 5 i0 Tryd.underlying22 (unhide HI) hz0 hz1 hz2 (ao := some ⟨w1.heap.size, 0, none⟩) (cap := 5) (g := w1.heap.size) (bs := [116, 111, 107, 101, 110]) rfl ?hr _ c rfl ?hs ?hf ?nx)
  case hr => exact Row.mark w1 #[.int .u8 116, .int .u8 111, .int .u8 107, .int .u8 101, .int .u8 110] 5 [116, 111, 107, 101, 110] 5 rfl (by simp [maxLen]) (by simp) (fun j hj => lit_get [116, 111, 107, 101, 110] j hj)
  case hs => exact src_string Tryd.underlying9 ⟨c.toArray⟩ _
  case hf => simp; omega
  intro ao cap w2 g hrow hF hg
  have hF2 : Fr (fun _ => False) w1 w2 := ((Fr.refl (fun _ => False) w1).alloc _).trans hF (fun i hi t => by omega)
  have hrow2 : Row w2 (.slice ao (5 + c.length) cap) g (tokB c) := hrow
  have hb := hrow2.batn (by omega)
  have HM := hide (mac_any w2 ((unhide HT).later hF2) s hs ao cap (tokB c) hb.1 (by omega))
  have HF := hide hF2
  rw [hb.2.1] at HM
  clear hrow hrow2 hF hg hF2 hb hcv
  go_wp2_with fail
  refine (unhide HM).mono ?_
  rintro e w3 ⟨ro, rc, rfl, g3, r1, r2, r3⟩
  have h32 := (r1.batn (by omega)).2.2
  have hb3 := (r1.front 8 (by omega)).batn (by omega)
  have cv := conv_bytes hb3.1
  rw [hb3.2.1] at cv
  have HF3 := hide ((unhide HF).trans r2 (fun _ _ t => t))
  clear r1 r2 r3 hb3 HM
  go_wp2
  go_ret2
  exact ⟨rfl, unhide HF3⟩

end Go.Proofs.YtgklgbomfipagaaDoor
