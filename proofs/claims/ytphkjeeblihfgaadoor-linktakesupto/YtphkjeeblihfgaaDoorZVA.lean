import Derived.Test.YtphkjeeblihfgaaDoorZSB
import Derived.Test.YtphkjeeblihfgaaDoorZRA
/- Small change of the seal. -/
namespace Go.Proofs.YtphkjeeblihfgaaDoor
open Go.RowKit

theorem i64_and63Z (n : Int) : bits .and .i64 n 63 = n % 64 := by
  show IntKind.i64.wrap ((BitVec.ofInt 64 n &&& BitVec.ofInt 64 63).toNat : Int) = _
  have h : (BitVec.ofInt 64 n &&& BitVec.ofInt 64 63).toNat = (n % 64).toNat := by
    rw [BitVec.toNat_and]
    have h63 : (BitVec.ofInt 64 63).toNat = 2 ^ 6 - 1 := by decide
    rw [h63, Nat.and_two_pow_sub_one_eq_mod, BitVec.toNat_ofInt]
    omega
  rw [h, IntKind.wrap_i64] <;> omega

theorem ba_append (a b : List UInt8) (B : Array UInt8) (hB : B = b.toArray) : ((⟨a.toArray⟩ : ByteArray) ++ (⟨B⟩ : ByteArray)) = ⟨(a ++ b).toArray⟩ := by
  subst hB
  apply ByteArray.ext
  simp

/-- 'string(make([]byte, k))'. -/
theorem made_bat (w : World) (k : Nat) (hk : k ≤ 64) : BAt (w.alloc (.cells (madeCells #[.int .u8 0] k) 5)) (some ⟨w.heap.size, 0, none⟩) k (List.replicate k 0) := by
  refine ⟨fun e => (by cases e), fun _ => ⟨_, 0, rfl, fun j hj => ?_⟩, by simp; omega⟩
  rw [List.length_replicate] at hj
  rw [Nat.zero_add, World.cell?_alloc_new]
  simp [madeCells, hj, Nat.mod_one]

end Go.Proofs.YtphkjeeblihfgaaDoor

/- The document's own under and Mac. -/
namespace Go.Proofs.YtphkjeeblihfgaaDoor
open Go.RowKit

/-- What lies in the padZ when so many bytes of it are under the number. -/
def undG (p : List UInt8) (x : UInt8) (i j : Nat) : Int := if j < i then ((p.getD j 0 ^^^ x).toNat : Int) else ((p.getD j 0).toNat : Int)

def Undr (w wr : World) (g : Nat) (p : List UInt8) (x : UInt8) (i : Nat) : Prop :=
  Fr (fun _ => False) w wr ∧ w.heap.size ≤ g ∧ ∀ j, j < 64 → wr.cell? ⟨g, j, none⟩ = some (.int .u8 (undG p x i j)) ∧ wr.frozen? ⟨g, j, none⟩ = false

theorem Undr.start {w wr : World} {g : Nat} {p : List UInt8} (x : UInt8) (hp : p.length = 64) (hF : Fr (fun _ => False) w wr) (hg : w.heap.size ≤ g) (h : Row wr (.slice (some ⟨g, 0, none⟩) 64 64) g p) : Undr w wr g p x 0 := by
  refine ⟨hF, hg, fun j hj => ⟨?_, ?_⟩⟩
  · rw [h.cells j (by omega)]
    simp [undG, List.getD, show j < p.length by omega]
  · obtain ⟨_, _, e, _, _, _, hr⟩ := h.shape
    injection e with _ _ e
    subst e
    exact (hr j hj).2

theorem Undr.next {w wr : World} {g : Nat} {p : List UInt8} {x : UInt8} {i : Nat} (h : Undr w wr g p x i) (hi : i < 64) : Undr w (wr.setCell ⟨g, i, none⟩ (.int .u8 ((p.getD i 0 ^^^ x).toNat : Int))) g p x (i + 1) := by
  refine ⟨h.1.setCell (p := ⟨g, i, none⟩) (fun t => absurd t (by have := h.2.1; simp only []; omega)) _, h.2.1, fun j hj => ⟨?_, by rw [World.frozen?_setCell]; exact (h.2.2 j hj).2⟩⟩
  by_cases e : j = i
  · subst e
    rw [World.cell?_setCell_same _ _ _ (h.2.2 j hj).1]
    unfold undG
    rw [if_pos (by omega)]
  · rw [World.cell?_setCell_other _ _ _ _ (by intro h; injection h with h1 h2; exact e h2.symm), (h.2.2 j hj).1]
    unfold undG
    by_cases h2 : j < i
    · rw [if_pos h2, if_pos (by omega)]
    · rw [if_neg h2, if_neg (by omega)]

theorem Undr.row {w wr : World} {g : Nat} {p : List UInt8} {x : UInt8} (h : Undr w wr g p x 64) (hp : p.length = 64) : New w (und p x) (.slice (some ⟨g, 0, none⟩) 64 64) wr := by
  have hl : (und p x).length = 64 := by rw [und_length, hp]
  refine ⟨g, ⟨⟨_, _, by rw [hl], by omega, by simp [maxLen], fun _ => rfl, fun j hj => ⟨by rw [(h.2.2 j hj).1]; rfl, (h.2.2 j hj).2⟩⟩, fun j hj => ?_⟩, h.1, h.2.1⟩
  rw [(h.2.2 j (by omega)).1]
  have : undG p x 64 j = undF p x 64 j := by unfold undG undF; rw [if_pos (by omega), if_pos (by omega)]
  rw [this, undF_all p x j hp hj]

set_option maxRecDepth 20000 in
set_option maxHeartbeats 1000000 in
theorem runder_any (w : World) (hT : TabRZ w) (s : List UInt8) (hs : s.length ≤ 200) (x : UInt8) : Calls Tryd.prog 62 #[.string ⟨s.toArray⟩, .int .u8 x.toNat] w fun e w' => ∃ ao cap, e = .returned (.slice ao 64 cap) ∧ New w (und (padZ s) x) (.slice ao 64 cap) w' := by
  have HT := hide hT
  clear hT
  obtain ⟨C, w1, hcv, H1⟩ := conv_strZ w s (by omega)
  have hmk := make64
  have hb1 := (unhide H1).1.batn (by omega)
  by_cases hlt : 64 < s.length
  · have hd : decide ((64 : Int) < (s.length : Int)) = true := by simp; omega
    have HS := hide (rsum_any w1 ((unhide HT).later (unhide H1).2.1) _ C s hb1.1 (by omega))
    have hk : padZ s = to64 (digest s) := by unfold padZ keyed; rw [if_pos hlt]
    have HK := hide hk
    clear hk hb1
    go_enter Tryd.func62, Tryd.ntmps62
    go_wp2_with fail
    refine (unhide HS).mono ?_
    rintro e w2 ⟨v, rfl, g, r1, r2, r3⟩
    obtain ⟨ao, cap, rfl, hlc, _, had, _⟩ := r1.shape
    have hb2 := (r1.bat (by rw [dig_len]; omega)).2
    obtain ⟨w3, hcp, H3⟩ := copy64 w2 ao cap (digest s) hb2 (by rw [dig_len]; omega)
    have hF := (unhide H1).2.1.trans r2 (fun _ _ t => t)
    have h3 := (unhide H3).1
    rw [← unhide HK] at h3
    have HU := hide (Undr.start x (pad_length s) (hF.trans (unhide H3).2 (fun _ _ t => t)) hF.size h3)
    rw [dig_len] at hcp ⊢
    clear r1 r2 r3 hb2 had hlc HS HK H3 h3 hF H1
    go_wp2
    obtain ⟨g3, hg3⟩ : ∃ g, w2.heap.size = g := ⟨_, rfl⟩
    rw [hg3] at HU ⊢
    clear hg3 hcp hmk
    obtain ⟨p, hp⟩ : ∃ p, p = padZ s := ⟨_, rfl⟩
    rw [← hp] at HU
    have HP := hide hp
    clear hp
    go_loopw [7] (fun iv wr => ∃ i : Nat, i ≤ 64 ∧ iv = .int .i64 i ∧ Hid (Undr w wr g3 p x i)) (fun iv _ => 64 - (intOf iv).toNat)
    case atStart => exact ⟨0, Nat.zero_le _, rfl, unhide HU⟩
    case round =>
      clear HU
      obtain ⟨i, hi, rfl, HI⟩ := hrel
      by_cases hlt : i < 64
      · have ci := ((unhide HI).2.2 i hlt).1
        have fi := ((unhide HI).2.2 i hlt).2
        rw [show undG p x i i = ((p.getD i 0).toNat : Int) by unfold undG; rw [if_neg (by omega)]] at ci
        have hx : bits .xor .u8 ((p.getD i 0).toNat : Int) (x.toNat : Int) = ((p.getD i 0 ^^^ x).toNat : Int) := by
          rw [u8_xor_nat _ _ (p.getD i 0).toNat_lt x.toNat_lt, UInt8.toNat_xor]
        have HN := hide ((unhide HI).next hlt)
        generalize p.getD i 0 = c at *
        go_wp2
        exact ⟨⟨i + 1, by omega, by go_num, unhide HN⟩, by simp [intOf]; omega⟩
      · obtain rfl : i = 64 := by omega
        have hn := (unhide HI).row (by rw [unhide HP]; exact pad_length s)
        rw [unhide HP] at hn
        have HN := hide hn
        clear hn
        go_wp2
        go_ret
        exact ⟨_, _, rfl, unhide HN⟩
  · have hd : decide ((64 : Int) < (s.length : Int)) = false := by simp; omega
    have hk : padZ s = to64 s := by unfold padZ keyed; rw [if_neg hlt]
    obtain ⟨w3, hcp, H3⟩ := copy64 w1 _ C s hb1.1 (by omega)
    have h3 := (unhide H3).1
    rw [← hk] at h3
    have HU := hide (Undr.start x (pad_length s) ((unhide H1).2.1.trans (unhide H3).2 (fun _ _ t => t)) (unhide H1).2.1.size h3)
    clear hk hb1 h3 H3 H1
    go_enter Tryd.func62, Tryd.ntmps62
    go_wp2
    obtain ⟨g3, hg3⟩ : ∃ g, w1.heap.size = g := ⟨_, rfl⟩
    rw [hg3] at HU ⊢
    clear hg3 hcp hmk
    obtain ⟨p, hp⟩ : ∃ p, p = padZ s := ⟨_, rfl⟩
    rw [← hp] at HU
    have HP := hide hp
    clear hp
    go_loopw [7] (fun iv wr => ∃ i : Nat, i ≤ 64 ∧ iv = .int .i64 i ∧ Hid (Undr w wr g3 p x i)) (fun iv _ => 64 - (intOf iv).toNat)
    case atStart => exact ⟨0, Nat.zero_le _, rfl, unhide HU⟩
    case round =>
      clear HU
      obtain ⟨i, hi, rfl, HI⟩ := hrel
      by_cases hlt : i < 64
      · have ci := ((unhide HI).2.2 i hlt).1
        have fi := ((unhide HI).2.2 i hlt).2
        rw [show undG p x i i = ((p.getD i 0).toNat : Int) by unfold undG; rw [if_neg (by omega)]] at ci
        have hx : bits .xor .u8 ((p.getD i 0).toNat : Int) (x.toNat : Int) = ((p.getD i 0 ^^^ x).toNat : Int) := by
          rw [u8_xor_nat _ _ (p.getD i 0).toNat_lt x.toNat_lt, UInt8.toNat_xor]
        have HN := hide ((unhide HI).next hlt)
        generalize p.getD i 0 = c at *
        go_wp2
        exact ⟨⟨i + 1, by omega, by go_num, unhide HN⟩, by simp [intOf]; omega⟩
      · obtain rfl : i = 64 := by omega
        have hn := (unhide HI).row (by rw [unhide HP]; exact pad_length s)
        rw [unhide HP] at hn
        have HN := hide hn
        clear hn
        go_wp2
        go_ret
        exact ⟨_, _, rfl, unhide HN⟩

end Go.Proofs.YtphkjeeblihfgaaDoor

/- The document's own Mac, Key and Token. -/
namespace Go.Proofs.YtphkjeeblihfgaaDoor
open Go.RowKit

set_option maxRecDepth 20000 in
theorem rmac_long (w : World) (s : List UInt8) (hs : 200 < s.length) (bv : Value) :
    Calls Tryd.prog 41 #[.string ⟨s.toArray⟩, bv] w fun e w' => e = .returned (.tuple #[.slice none 0 0, .int .i64 2]) ∧ w' = w := by
  have hd : decide ((200 : Int) < (s.length : Int)) = true := by simp; omega
  go_enter Tryd.func41, Tryd.ntmps41
  go_wp2
  go_ret2
  exact ⟨rfl, rfl⟩

/-- append, with the lengths as letters. -/
theorem wpList_append_n {P : Program} (w : World) {ops : Array Oper} {rest : List Oper} {o : Oper} {a : Act} {Q : Exit → Act → World → Prop} (hgd : o.guard = none) (s x : Operand) (t tx : TypeId)
    (ho : o.op = .call { callee := .builtin .append, args := #[s, x], argTypes := #[t, tx] }) (e : TypeId) (i : TypeInfo) (ht : P.underlying t = some (.slice e)) (hi : P.info? e = some i) (hz : i.zero = some (.int .u8 0)) (hs1 : i.size = 1) (hby : i.bytes = 1)
    {ao : Option Addr} {n cap g : Nat} {bs : List UInt8} (hv : a.eval s = .slice ao n cap) (h : Row w (.slice ao n cap) g bs) (xv : Value) (ms : List UInt8) (m : Nat) (hx : a.eval x = xv) (hm : ms.length = m) (hs : Src P 1 tx xv m (bytesV ms) w) (hfit : n + m ≤ 140737488355328)
    (hK : ∀ ao' cap' w' g', Row w' (.slice ao' (n + m) cap') g' (bs ++ ms) → Fr (fun k => k = g ∧ 0 < cap) w w' → ((g' = g ∧ cap' = cap) ∨ w.heap.size ≤ g') → wpList P ops Q rest (a.put o.dst (.slice ao' (n + m) cap')) w') : wpList P ops Q (o :: rest) a w := by
  have hn : n = bs.length := by
    obtain ⟨_, _, e, _⟩ := h.shape
    injection e
  subst hn hm
  exact wpList_append_row w hgd s x t tx ho e i ht hi hz hs1 hby hv h xv ms hx hs hfit hK

set_option maxRecDepth 20000 in
set_option maxHeartbeats 1000000 in
theorem rmac_any (w : World) (hT : TabRZ w) (s : List UInt8) (hs : s.length ≤ 200) (bo : Option Addr) (bcap : Nat) (bs : List UInt8) (hB : BAt w bo bcap bs) (hfit : bs.length + 136 ≤ 140737488355328) :
    Calls Tryd.prog 41 #[.string ⟨s.toArray⟩, .slice bo bs.length bcap] w fun e w' => ∃ ao cap, e = .returned (.tuple #[.slice ao 32 cap, .int .i64 0]) ∧ New w (hmac s bs) (.slice ao 32 cap) w' := by
  have HT := hide hT
  have HB := hide hB
  clear hT hB
  have hd : decide ((200 : Int) < (s.length : Int)) = false := by simp; omega
  obtain ⟨i0, hi, hz0, hz1, hz2⟩ := info_parts Tryd.info5
  have HI := hide hi
  clear hi
  go_enter Tryd.func41, Tryd.ntmps41
  go_wp2_with fail
  refine (runder_any w (unhide HT) s hs 54).mono ?_
  rintro e w1 ⟨ao, cap, rfl, g1, r1, r2, r3⟩
  have H1 := hide (And.intro r1 (And.intro r2 r3))
  clear r1 r2 r3
  go_wp2_with (at_builtin; refine wpList_append_n _ rfl (.tmp 14) (.tmp 15) 34 34 rfl 5 i0 Tryd.underlying34 (unhide HI) hz0 hz1 hz2 (ao := ao) (n := 64) (cap := cap) (g := g1) (bs := und (padZ s) 54) rfl (unhide H1).1 _ bs bs.length rfl rfl ?hs (by omega) ?nx)
  case hs => exact src_slice Tryd.underlying34 _ _ _ bs ((unhide HB).later (unhide H1).2.1).2.1
  intro ao2 cap2 w2 g2 hrow hF hg
  have hF2 : Fr (fun _ => False) w w2 := (unhide H1).2.1.trans hF (fun i hi t => by have := (unhide H1).2.2; omega)
  have hb2 := hrow.batn (by omega)
  have HS := hide (rsum_any w2 ((unhide HT).later hF2) ao2 cap2 (und (padZ s) 54 ++ bs) hb2.1 (by rw [hb2.2.1]; omega))
  rw [hb2.2.1] at HS
  have HF2 := hide hF2
  clear hrow hF hg hF2 hb2 H1
  go_wp2_with fail
  refine (unhide HS).mono ?_
  rintro e w3 ⟨v, rfl, g3, r1, r2, r3⟩
  obtain ⟨mo, mc, rfl, _⟩ := r1.shape
  rw [dig_len] at r1 ⊢
  have hb3 := r1.batn (by omega)
  have hF3 := (unhide HF2).trans r2 (fun _ _ t => t)
  have H3 := hide (And.intro hb3.1 hF3)
  clear r1 r2 r3 hb3 hF3 HS HF2
  go_wp2_with fail
  refine (runder_any w3 ((unhide HT).later (unhide H3).2) s hs 92).mono ?_
  rintro e w4 ⟨ao4, cap4, rfl, g4, r1, r2, r3⟩
  have hsrc := src_slice Tryd.underlying34 w4 mo mc (digest (und (padZ s) 54 ++ bs)) ((unhide H3).1.later r2).2.1
  rw [dig_len] at hsrc
  have H4 := hide (And.intro r1 (And.intro ((unhide H3).2.trans r2 (fun _ _ t => t)) (And.intro (Nat.le_trans (unhide H3).2.size r3) hsrc)))
  clear r1 r2 r3 hsrc H3
  go_wp2_with (at_builtin; refine wpList_append_n _ rfl (.tmp 21) (.tmp 22) 34 34 rfl 5 i0 Tryd.underlying34 (unhide HI) hz0 hz1 hz2 (ao := ao4) (n := 64) (cap := cap4) (g := g4) (bs := und (padZ s) 92) rfl (unhide H4).1 _ (digest (und (padZ s) 54 ++ bs)) 32 rfl (dig_len _) (unhide H4).2.2.2 (by omega) ?nx4)
  intro ao5 cap5 w5 g5 hrow hF hg
  have hF5 : Fr (fun _ => False) w w5 := (unhide H4).2.1.trans hF (fun i hi t => by have := (unhide H4).2.2.1; omega)
  have hb5 := hrow.batn (by omega)
  have HS := hide (rsum_any w5 ((unhide HT).later hF5) ao5 cap5 (und (padZ s) 92 ++ digest (und (padZ s) 54 ++ bs)) hb5.1 (by rw [hb5.2.1]; omega))
  rw [hb5.2.1] at HS
  have HF5 := hide hF5
  clear hrow hF hg hF5 hb5 H4
  go_wp2_with fail
  refine (unhide HS).mono ?_
  rintro e w6 ⟨v, rfl, hN⟩
  have hN6 : New w (hmac s bs) v w6 := hN.on (unhide HF5)
  obtain ⟨ro, rc, rfl⟩ : ∃ ao cap, v = .slice ao 32 cap := by
    obtain ⟨g, r, _⟩ := hN6
    obtain ⟨ao, cap, e, _⟩ := r.shape
    rw [hmac_length] at e
    exact ⟨ao, cap, e⟩
  have H6 := hide hN6
  clear hN hN6 HS
  go_wp2
  go_ret2
  exact ⟨_, _, rfl, unhide H6⟩

set_option maxRecDepth 20000 in
theorem rkey_long (w : World) (s : List UInt8) (hs : 200 < s.length) (dv : Value) :
    Calls Tryd.prog 26 #[.string ⟨s.toArray⟩, dv] w fun e w' => e = .returned (.tuple #[.string ⟨#[]⟩, .int .i64 2]) ∧ w' = w := by
  have hd : decide ((200 : Int) < (s.length : Int)) = true := by simp; omega
  go_enter Tryd.func26, Tryd.ntmps26
  go_wp2
  go_ret2
  exact ⟨rfl, rfl⟩

set_option maxRecDepth 20000 in
theorem rkey_bad (w : World) (s : List UInt8) (hs : s.length ≤ 200) (d : Int) (hd : d < 0 ∨ 65535 < d) :
    Calls Tryd.prog 26 #[.string ⟨s.toArray⟩, .int .i64 d] w fun e w' => e = .returned (.tuple #[.string ⟨#[]⟩, .int .i64 1]) ∧ w' = w := by
  have hl : decide ((200 : Int) < (s.length : Int)) = false := by simp; omega
  by_cases h0 : d < 0
  · have h1 : decide (d < 0) = true := decide_eq_true h0
    clear hd
    go_enter Tryd.func26, Tryd.ntmps26
    go_wp2
    go_ret2
    exact ⟨rfl, rfl⟩
  · have h1 : decide (d < 0) = false := decide_eq_false h0
    have h2 : decide (65535 < d) = true := decide_eq_true (by omega)
    clear hd h0
    go_enter Tryd.func26, Tryd.ntmps26
    go_wp2
    go_ret2
    exact ⟨rfl, rfl⟩

set_option maxRecDepth 20000 in
set_option maxHeartbeats 1000000 in
theorem rkey_any (w : World) (hT : TabRZ w) (s : List UInt8) (hs : s.length ≤ 200) (d : Nat) (hd : d ≤ 65535) :
    Calls Tryd.prog 26 #[.string ⟨s.toArray⟩, .int .i64 d] w fun e w' => e = .returned (.tuple #[.string ⟨(hmac s (devB d)).toArray⟩, .int .i64 0]) ∧ Fr (fun _ => False) w w' := by
  have HT := hide hT
  clear hT
  obtain ⟨i0, hi, hz0, hz1, hz2⟩ := info_parts Tryd.info5
  have HI := hide hi
  clear hi
  have hcv := fun (w : World) (C : Array Value) (n c : Nat) => Lib.run_convert_bytes_const (P := Tryd.prog) w 34 5 C n c Tryd.underlying34 Tryd.underlying5
  have hl : decide ((200 : Int) < (s.length : Int)) = false := by simp; omega
  have h1 : decide ((d : Int) < 0) = false := decide_eq_false (by omega)
  have h2 : decide (65535 < (d : Int)) = false := decide_eq_false (by omega)
  go_enter Tryd.func26, Tryd.ntmps26
  go_wp2_with (at_builtin; refine wpList_append_row _ rfl (.tmp 20) (.tmp 27) 34 34 rfl 5 i0 Tryd.underlying34 (unhide HI) hz0 hz1 hz2 (ao := some ⟨w.heap.size, 0, none⟩) (cap := 6) (g := w.heap.size) (bs := [100, 101, 118, 105, 99, 101]) rfl ?hr _ [UInt8.ofNat (d / 256), UInt8.ofNat d] rfl ?hs ?hf ?nx)
  case hr =>
    have hm := Row.markZ w #[.int .u8 100, .int .u8 101, .int .u8 118, .int .u8 105, .int .u8 99, .int .u8 101] 5 [100, 101, 118, 105, 99, 101] 6 rfl (by simp [maxLen]) (by simp) (fun j hj => lit_get [100, 101, 118, 105, 99, 101] j hj)
    exact hm.stay (fun h => Below.heap_alloc _ _ _ h)
  case hs =>
    have h2 := src_newZ (w.alloc (.cells #[.int .u8 100, .int .u8 101, .int .u8 118, .int .u8 105, .int .u8 99, .int .u8 101] 5 (6, 7))) [UInt8.ofNat (d / 256), UInt8.ofNat d] (w.heap.size + 1) (by simp) (by simp)
    rw [← lit2 d hd] at h2
    exact h2
  case hf => simp
  intro ao cap w2 g hrow hF hg
  have hF2 : Fr (fun _ => False) w w2 := (((Fr.refl (fun _ => False) w).alloc _).alloc _).trans hF (fun i hi t => by omega)
  have hrow2 : Row w2 (.slice ao 8 cap) g (devB d) := hrow
  have hb := hrow2.batn (by omega)
  have HM := hide (rmac_any w2 ((unhide HT).later hF2) s hs ao cap (devB d) hb.1 (by simp [devB]))
  have HF := hide hF2
  have hl8 : (devB d).length = 8 := rfl
  rw [hl8] at HM
  clear hrow hrow2 hF hg hF2 hb hl8 hcv
  go_wp2_with fail
  refine (unhide HM).mono ?_
  rintro e w3 ⟨ro, rc, rfl, g3, r1, r2, r3⟩
  have hb3 := r1.batn (by omega)
  have cv := conv_bytes hb3.1
  rw [hb3.2.1] at cv
  have HF3 := hide ((unhide HF).trans r2 (fun _ _ t => t))
  clear r1 r2 r3 hb3 HM
  go_wp2
  go_ret2
  exact ⟨rfl, unhide HF3⟩

end Go.Proofs.YtphkjeeblihfgaaDoor

/- The document's own Seal and Open. -/
namespace Go.Proofs.YtphkjeeblihfgaaDoor
open Go.RowKit

end Go.Proofs.YtphkjeeblihfgaaDoor

/- Links' secrets: the program's and the document's. -/
namespace Go.Proofs.YtphkjeeblihfgaaDoor
open Go.RowKit

/-- What a link's secret is, and its error. -/
def lsec (s : List UInt8) (n : Int) : List UInt8 × Int :=
  if 200 < s.length then ([], 2) else if n < 0 ∨ 65535 < n then ([], 1) else (hmac (hmac s (devB n.toNat)) (devB 0), 0)

set_option maxRecDepth 20000 in
theorem secret_any (w : World) (hT : TabP w) (s : List UInt8) (n : Int) :
    Calls Tryd.prog 8 #[.string ⟨s.toArray⟩, .int .i64 n] w fun e w' => e = .returned (.tuple #[.string ⟨(lsec s n).1.toArray⟩, .int .i64 (lsec s n).2]) ∧ Fr (fun _ => False) w w' := by
  have HT := hide hT
  clear hT
  unfold lsec
  by_cases hs : 200 < s.length
  · rw [if_pos hs]
    go_enter Tryd.func8, Tryd.ntmps8
    go_wp2_with fail
    refine (key_long w s hs _).mono ?_
    rintro e w1 ⟨rfl, rfl⟩
    go_wp2
    go_ret2
    exact ⟨rfl, Fr.refl _ _⟩
  · rw [if_neg hs]
    by_cases hn : n < 0 ∨ 65535 < n
    · rw [if_pos hn]
      go_enter Tryd.func8, Tryd.ntmps8
      go_wp2_with fail
      refine (key_bad w s (by omega) n hn).mono ?_
      rintro e w1 ⟨rfl, rfl⟩
      go_wp2
      go_ret2
      exact ⟨rfl, Fr.refl _ _⟩
    · rw [if_neg hn]
      obtain ⟨d, rfl⟩ : ∃ d : Nat, n = (d : Int) := ⟨n.toNat, by omega⟩
      rw [Int.toNat_natCast]
      have hl : (hmac s (devB d)).length ≤ 200 := by rw [hmac_length]; omega
      obtain ⟨t, ht⟩ : ∃ t, hmac s (devB d) = t := ⟨_, rfl⟩
      obtain ⟨u, hu⟩ : ∃ u, hmac t (devB 0) = u := ⟨_, rfl⟩
      rw [ht] at hl
      rw [ht, hu]
      have HH := hide (And.intro ht hu)
      clear ht hu
      go_enter Tryd.func8, Tryd.ntmps8
      go_wp2_with fail
      refine (key_any w (unhide HT) s (by omega) d (by omega)).mono ?_
      rintro e w1 ⟨he, hF1⟩
      rw [(unhide HH).1] at he
      subst he
      have HF := hide hF1
      have HT1 := hide ((unhide HT).frame hF1 (fun h => h) (fun h => h))
      clear hF1
      go_wp2_with fail
      refine (key_any w1 (unhide HT1) t hl 0 (by omega)).mono ?_
      rintro e w2 ⟨he, hF2⟩
      rw [(unhide HH).2] at he
      subst he
      have HF2 := hide ((unhide HF).trans hF2 (fun _ _ t => t))
      clear hF2
      go_wp2
      go_ret2
      exact ⟨rfl, unhide HF2⟩

set_option maxRecDepth 20000 in
theorem rsecret_any (w : World) (hT : TabRZ w) (s : List UInt8) (n : Int) :
    Calls Tryd.prog 9 #[.string ⟨s.toArray⟩, .int .i64 n] w fun e w' => e = .returned (.tuple #[.string ⟨(lsec s n).1.toArray⟩, .int .i64 (lsec s n).2]) ∧ Fr (fun _ => False) w w' := by
  have HT := hide hT
  clear hT
  unfold lsec
  by_cases hs : 200 < s.length
  · rw [if_pos hs]
    go_enter Tryd.func9, Tryd.ntmps9
    go_wp2_with fail
    refine (rkey_long w s hs _).mono ?_
    rintro e w1 ⟨rfl, rfl⟩
    go_wp2
    go_ret2
    exact ⟨rfl, Fr.refl _ _⟩
  · rw [if_neg hs]
    by_cases hn : n < 0 ∨ 65535 < n
    · rw [if_pos hn]
      go_enter Tryd.func9, Tryd.ntmps9
      go_wp2_with fail
      refine (rkey_bad w s (by omega) n hn).mono ?_
      rintro e w1 ⟨rfl, rfl⟩
      go_wp2
      go_ret2
      exact ⟨rfl, Fr.refl _ _⟩
    · rw [if_neg hn]
      obtain ⟨d, rfl⟩ : ∃ d : Nat, n = (d : Int) := ⟨n.toNat, by omega⟩
      rw [Int.toNat_natCast]
      have hl : (hmac s (devB d)).length ≤ 200 := by rw [hmac_length]; omega
      obtain ⟨t, ht⟩ : ∃ t, hmac s (devB d) = t := ⟨_, rfl⟩
      obtain ⟨u, hu⟩ : ∃ u, hmac t (devB 0) = u := ⟨_, rfl⟩
      rw [ht] at hl
      rw [ht, hu]
      have HH := hide (And.intro ht hu)
      clear ht hu
      go_enter Tryd.func9, Tryd.ntmps9
      go_wp2_with fail
      refine (rkey_any w (unhide HT) s (by omega) d (by omega)).mono ?_
      rintro e w1 ⟨he, hF1⟩
      rw [(unhide HH).1] at he
      subst he
      have HF := hide hF1
      have HT1 := hide ((unhide HT).frame hF1 (fun h => h) (fun h => h))
      clear hF1
      go_wp2_with fail
      refine (rkey_any w1 (unhide HT1) t hl 0 (by omega)).mono ?_
      rintro e w2 ⟨he, hF2⟩
      rw [(unhide HH).2] at he
      subst he
      have HF2 := hide ((unhide HF).trans hF2 (fun _ _ t => t))
      clear hF2
      go_wp2
      go_ret2
      exact ⟨rfl, unhide HF2⟩

end Go.Proofs.YtphkjeeblihfgaaDoor

