import Derived.Test.YtabhfeocelljdaaGreatDoorZSB
import Derived.Test.YtabhfeocelljdaaGreatDoorZRA
/- Small change of the seal. -/
namespace Go.Proofs.YtabhfeocelljdaaGreatDoor
open Go.RowKit

theorem i64_and63Z (n : Int) : bits .and .i64 n 63 = n % 64 := by
  show IntKind.i64.wrap ((BitVec.ofInt 64 n &&& BitVec.ofInt 64 63).toNat : Int) = _
  have h : (BitVec.ofInt 64 n &&& BitVec.ofInt 64 63).toNat = (n % 64).toNat := by
    rw [BitVec.toNat_and]
    have h63 : (BitVec.ofInt 64 63).toNat = 2 ^ 6 - 1 := by decide
    rw [h63, Nat.and_two_pow_sub_one_eq_mod, BitVec.toNat_ofInt]
    omega
  rw [h, IntKind.wrap_i64] <;> omega

theorem ba_append (a b : List UInt8) (B : Array UInt8) (hB : B = b.toArray) : ((⟨a.toArray⟩ : ByteArray) ++ (⟨B⟩ : ByteArray)) = ⟨(a ++ b).toArray⟩ := by
  subst hB
  apply ByteArray.ext
  simp

/-- 'string(make([]byte, k))'. -/
theorem made_bat (w : World) (k : Nat) (hk : k ≤ 64) : BAt (w.alloc (.cells (madeCells #[.int .u8 0] k) 5)) (some ⟨w.heap.size, 0, none⟩) k (List.replicate k 0) := by
  refine ⟨fun e => (by cases e), fun _ => ⟨_, 0, rfl, fun j hj => ?_⟩, by simp; omega⟩
  rw [List.length_replicate] at hj
  rw [Nat.zero_add, World.cell?_alloc_new]
  simp [madeCells, hj, Nat.mod_one]

end Go.Proofs.YtabhfeocelljdaaGreatDoor

/- The document's own under and Mac. -/
namespace Go.Proofs.YtabhfeocelljdaaGreatDoor
open Go.RowKit

/-- What lies in the padZ when so many bytes of it are under the number. -/
def undG (p : List UInt8) (x : UInt8) (i j : Nat) : Int := if j < i then ((p.getD j 0 ^^^ x).toNat : Int) else ((p.getD j 0).toNat : Int)

def Undr (w wr : World) (g : Nat) (p : List UInt8) (x : UInt8) (i : Nat) : Prop :=
  Fr (fun _ => False) w wr ∧ w.heap.size ≤ g ∧ ∀ j, j < 64 → wr.cell? ⟨g, j, none⟩ = some (.int .u8 (undG p x i j)) ∧ wr.frozen? ⟨g, j, none⟩ = false

theorem Undr.start {w wr : World} {g : Nat} {p : List UInt8} (x : UInt8) (hp : p.length = 64) (hF : Fr (fun _ => False) w wr) (hg : w.heap.size ≤ g) (h : Row wr (.slice (some ⟨g, 0, none⟩) 64 64) g p) : Undr w wr g p x 0 := by
  refine ⟨hF, hg, fun j hj => ⟨?_, ?_⟩⟩
  · rw [h.cells j (by omega)]
    simp [undG, List.getD, show j < p.length by omega]
  · obtain ⟨_, _, e, _, _, _, hr⟩ := h.shape
    injection e with _ _ e
    subst e
    exact (hr j hj).2

theorem Undr.next {w wr : World} {g : Nat} {p : List UInt8} {x : UInt8} {i : Nat} (h : Undr w wr g p x i) (hi : i < 64) : Undr w (wr.setCell ⟨g, i, none⟩ (.int .u8 ((p.getD i 0 ^^^ x).toNat : Int))) g p x (i + 1) := by
  refine ⟨h.1.setCell (p := ⟨g, i, none⟩) (fun t => absurd t (by have := h.2.1; simp only []; omega)) _, h.2.1, fun j hj => ⟨?_, by rw [World.frozen?_setCell]; exact (h.2.2 j hj).2⟩⟩
  by_cases e : j = i
  · subst e
    rw [World.cell?_setCell_same _ _ _ (h.2.2 j hj).1]
    unfold undG
    rw [if_pos (by omega)]
  · rw [World.cell?_setCell_other _ _ _ _ (by intro h; injection h with h1 h2; exact e h2.symm), (h.2.2 j hj).1]
    unfold undG
    by_cases h2 : j < i
    · rw [if_pos h2, if_pos (by omega)]
    · rw [if_neg h2, if_neg (by omega)]

theorem Undr.row {w wr : World} {g : Nat} {p : List UInt8} {x : UInt8} (h : Undr w wr g p x 64) (hp : p.length = 64) : New w (und p x) (.slice (some ⟨g, 0, none⟩) 64 64) wr := by
  have hl : (und p x).length = 64 := by rw [und_length, hp]
  refine ⟨g, ⟨⟨_, _, by rw [hl], by omega, by simp [maxLen], fun _ => rfl, fun j hj => ⟨by rw [(h.2.2 j hj).1]; rfl, (h.2.2 j hj).2⟩⟩, fun j hj => ?_⟩, h.1, h.2.1⟩
  rw [(h.2.2 j (by omega)).1]
  have : undG p x 64 j = undF p x 64 j := by unfold undG undF; rw [if_pos (by omega), if_pos (by omega)]
  rw [this, undF_all p x j hp hj]

set_option maxRecDepth 20000 in
set_option maxHeartbeats 1000000 in
theorem runder_any (w : World) (hT : TabRZ w) (s : List UInt8) (hs : s.length ≤ 200) (x : UInt8) : Calls Tryz.prog 79 #[.string ⟨s.toArray⟩, .int .u8 x.toNat] w fun e w' => ∃ ao cap, e = .returned (.slice ao 64 cap) ∧ New w (und (padZ s) x) (.slice ao 64 cap) w' := by
  have HT := hide hT
  clear hT
  obtain ⟨C, w1, hcv, H1⟩ := conv_strZ w s (by omega)
  have hmk := make64
  have hb1 := (unhide H1).1.batn (by omega)
  by_cases hlt : 64 < s.length
  · have hd : decide ((64 : Int) < (s.length : Int)) = true := by simp; omega
    have HS := hide (rsum_any w1 ((unhide HT).later (unhide H1).2.1) _ C s hb1.1 (by omega))
    have hk : padZ s = to64 (digest s) := by unfold padZ keyed; rw [if_pos hlt]
    have HK := hide hk
    clear hk hb1
    go_enter Tryz.func79, Tryz.ntmps79
    go_wp2_with fail
    refine (unhide HS).mono ?_
    rintro e w2 ⟨v, rfl, g, r1, r2, r3⟩
    obtain ⟨ao, cap, rfl, hlc, _, had, _⟩ := r1.shape
    have hb2 := (r1.bat (by rw [dig_len]; omega)).2
    obtain ⟨w3, hcp, H3⟩ := copy64 w2 ao cap (digest s) hb2 (by rw [dig_len]; omega)
    have hF := (unhide H1).2.1.trans r2 (fun _ _ t => t)
    have h3 := (unhide H3).1
    rw [← unhide HK] at h3
    have HU := hide (Undr.start x (pad_length s) (hF.trans (unhide H3).2 (fun _ _ t => t)) hF.size h3)
    rw [dig_len] at hcp ⊢
    clear r1 r2 r3 hb2 had hlc HS HK H3 h3 hF H1
    go_wp2
    obtain ⟨g3, hg3⟩ : ∃ g, w2.heap.size = g := ⟨_, rfl⟩
    rw [hg3] at HU ⊢
    clear hg3 hcp hmk
    obtain ⟨p, hp⟩ : ∃ p, p = padZ s := ⟨_, rfl⟩
    rw [← hp] at HU
    have HP := hide hp
    clear hp
    go_loopw [7] (fun iv wr => ∃ i : Nat, i ≤ 64 ∧ iv = .int .i64 i ∧ Hid (Undr w wr g3 p x i)) (fun iv _ => 64 - (intOf iv).toNat)
    case atStart => exact ⟨0, Nat.zero_le _, rfl, unhide HU⟩
    case round =>
      clear HU
      obtain ⟨i, hi, rfl, HI⟩ := hrel
      by_cases hlt : i < 64
      · have ci := ((unhide HI).2.2 i hlt).1
        have fi := ((unhide HI).2.2 i hlt).2
        rw [show undG p x i i = ((p.getD i 0).toNat : Int) by unfold undG; rw [if_neg (by omega)]] at ci
        have hx : bits .xor .u8 ((p.getD i 0).toNat : Int) (x.toNat : Int) = ((p.getD i 0 ^^^ x).toNat : Int) := by
          rw [u8_xor_nat _ _ (p.getD i 0).toNat_lt x.toNat_lt, UInt8.toNat_xor]
        have HN := hide ((unhide HI).next hlt)
        generalize p.getD i 0 = c at *
        go_wp2
        exact ⟨⟨i + 1, by omega, by go_num, unhide HN⟩, by simp [intOf]; omega⟩
      · obtain rfl : i = 64 := by omega
        have hn := (unhide HI).row (by rw [unhide HP]; exact pad_length s)
        rw [unhide HP] at hn
        have HN := hide hn
        clear hn
        go_wp2
        go_ret
        exact ⟨_, _, rfl, unhide HN⟩
  · have hd : decide ((64 : Int) < (s.length : Int)) = false := by simp; omega
    have hk : padZ s = to64 s := by unfold padZ keyed; rw [if_neg hlt]
    obtain ⟨w3, hcp, H3⟩ := copy64 w1 _ C s hb1.1 (by omega)
    have h3 := (unhide H3).1
    rw [← hk] at h3
    have HU := hide (Undr.start x (pad_length s) ((unhide H1).2.1.trans (unhide H3).2 (fun _ _ t => t)) (unhide H1).2.1.size h3)
    clear hk hb1 h3 H3 H1
    go_enter Tryz.func79, Tryz.ntmps79
    go_wp2
    obtain ⟨g3, hg3⟩ : ∃ g, w1.heap.size = g := ⟨_, rfl⟩
    rw [hg3] at HU ⊢
    clear hg3 hcp hmk
    obtain ⟨p, hp⟩ : ∃ p, p = padZ s := ⟨_, rfl⟩
    rw [← hp] at HU
    have HP := hide hp
    clear hp
    go_loopw [7] (fun iv wr => ∃ i : Nat, i ≤ 64 ∧ iv = .int .i64 i ∧ Hid (Undr w wr g3 p x i)) (fun iv _ => 64 - (intOf iv).toNat)
    case atStart => exact ⟨0, Nat.zero_le _, rfl, unhide HU⟩
    case round =>
      clear HU
      obtain ⟨i, hi, rfl, HI⟩ := hrel
      by_cases hlt : i < 64
      · have ci := ((unhide HI).2.2 i hlt).1
        have fi := ((unhide HI).2.2 i hlt).2
        rw [show undG p x i i = ((p.getD i 0).toNat : Int) by unfold undG; rw [if_neg (by omega)]] at ci
        have hx : bits .xor .u8 ((p.getD i 0).toNat : Int) (x.toNat : Int) = ((p.getD i 0 ^^^ x).toNat : Int) := by
          rw [u8_xor_nat _ _ (p.getD i 0).toNat_lt x.toNat_lt, UInt8.toNat_xor]
        have HN := hide ((unhide HI).next hlt)
        generalize p.getD i 0 = c at *
        go_wp2
        exact ⟨⟨i + 1, by omega, by go_num, unhide HN⟩, by simp [intOf]; omega⟩
      · obtain rfl : i = 64 := by omega
        have hn := (unhide HI).row (by rw [unhide HP]; exact pad_length s)
        rw [unhide HP] at hn
        have HN := hide hn
        clear hn
        go_wp2
        go_ret
        exact ⟨_, _, rfl, unhide HN⟩

end Go.Proofs.YtabhfeocelljdaaGreatDoor

/- The document's own Mac, Key and Token. -/
namespace Go.Proofs.YtabhfeocelljdaaGreatDoor
open Go.RowKit

set_option maxRecDepth 20000 in
theorem rmac_long (w : World) (s : List UInt8) (hs : 200 < s.length) (bv : Value) :
    Calls Tryz.prog 55 #[.string ⟨s.toArray⟩, bv] w fun e w' => e = .returned (.tuple #[.slice none 0 0, .int .i64 2]) ∧ w' = w := by
  have hd : decide ((200 : Int) < (s.length : Int)) = true := by simp; omega
  go_enter Tryz.func55, Tryz.ntmps55
  go_wp2
  go_ret2
  exact ⟨rfl, rfl⟩

/-- append, with the lengths as letters. -/
theorem wpList_append_n {P : Program} (w : World) {ops : Array Oper} {rest : List Oper} {o : Oper} {a : Act} {Q : Exit → Act → World → Prop} (hgd : o.guard = none) (s x : Operand) (t tx : TypeId)
    (ho : o.op = .call { callee := .builtin .append, args := #[s, x], argTypes := #[t, tx] }) (e : TypeId) (i : TypeInfo) (ht : P.underlying t = some (.slice e)) (hi : P.info? e = some i) (hz : i.zero = some (.int .u8 0)) (hs1 : i.size = 1) (hby : i.bytes = 1)
    {ao : Option Addr} {n cap g : Nat} {bs : List UInt8} (hv : a.eval s = .slice ao n cap) (h : Row w (.slice ao n cap) g bs) (xv : Value) (ms : List UInt8) (m : Nat) (hx : a.eval x = xv) (hm : ms.length = m) (hs : Src P 1 tx xv m (bytesV ms) w) (hfit : n + m ≤ 140737488355328)
    (hK : ∀ ao' cap' w' g', Row w' (.slice ao' (n + m) cap') g' (bs ++ ms) → Fr (fun k => k = g ∧ 0 < cap) w w' → ((g' = g ∧ cap' = cap) ∨ w.heap.size ≤ g') → wpList P ops Q rest (a.put o.dst (.slice ao' (n + m) cap')) w') : wpList P ops Q (o :: rest) a w := by
  have hn : n = bs.length := by
    obtain ⟨_, _, e, _⟩ := h.shape
    injection e
  subst hn hm
  exact wpList_append_row w hgd s x t tx ho e i ht hi hz hs1 hby hv h xv ms hx hs hfit hK

set_option maxRecDepth 20000 in
set_option maxHeartbeats 1000000 in
theorem rmac_any (w : World) (hT : TabRZ w) (s : List UInt8) (hs : s.length ≤ 200) (bo : Option Addr) (bcap : Nat) (bs : List UInt8) (hB : BAt w bo bcap bs) (hfit : bs.length + 136 ≤ 140737488355328) :
    Calls Tryz.prog 55 #[.string ⟨s.toArray⟩, .slice bo bs.length bcap] w fun e w' => ∃ ao cap, e = .returned (.tuple #[.slice ao 32 cap, .int .i64 0]) ∧ New w (hmac s bs) (.slice ao 32 cap) w' := by
  have HT := hide hT
  have HB := hide hB
  clear hT hB
  have hd : decide ((200 : Int) < (s.length : Int)) = false := by simp; omega
  obtain ⟨i0, hi, hz0, hz1, hz2⟩ := info_parts Tryz.info5
  have HI := hide hi
  clear hi
  go_enter Tryz.func55, Tryz.ntmps55
  go_wp2_with fail
  refine (runder_any w (unhide HT) s hs 54).mono ?_
  rintro e w1 ⟨ao, cap, rfl, g1, r1, r2, r3⟩
  have H1 := hide (And.intro r1 (And.intro r2 r3))
  clear r1 r2 r3
  go_wp2_with (at_builtin; refine wpList_append_n _ rfl (.tmp 14) (.tmp 15) 23 23 rfl 5 i0 Tryz.underlying23 (unhide HI) hz0 hz1 hz2 (ao := ao) (n := 64) (cap := cap) (g := g1) (bs := und (padZ s) 54) rfl (unhide H1).1 _ bs bs.length rfl rfl ?hs (by omega) ?nx)
  case hs => exact src_slice Tryz.underlying23 _ _ _ bs ((unhide HB).later (unhide H1).2.1).2.1
  intro ao2 cap2 w2 g2 hrow hF hg
  have hF2 : Fr (fun _ => False) w w2 := (unhide H1).2.1.trans hF (fun i hi t => by have := (unhide H1).2.2; omega)
  have hb2 := hrow.batn (by omega)
  have HS := hide (rsum_any w2 ((unhide HT).later hF2) ao2 cap2 (und (padZ s) 54 ++ bs) hb2.1 (by rw [hb2.2.1]; omega))
  rw [hb2.2.1] at HS
  have HF2 := hide hF2
  clear hrow hF hg hF2 hb2 H1
  go_wp2_with fail
  refine (unhide HS).mono ?_
  rintro e w3 ⟨v, rfl, g3, r1, r2, r3⟩
  obtain ⟨mo, mc, rfl, _⟩ := r1.shape
  rw [dig_len] at r1 ⊢
  have hb3 := r1.batn (by omega)
  have hF3 := (unhide HF2).trans r2 (fun _ _ t => t)
  have H3 := hide (And.intro hb3.1 hF3)
  clear r1 r2 r3 hb3 hF3 HS HF2
  go_wp2_with fail
  refine (runder_any w3 ((unhide HT).later (unhide H3).2) s hs 92).mono ?_
  rintro e w4 ⟨ao4, cap4, rfl, g4, r1, r2, r3⟩
  have hsrc := src_slice Tryz.underlying23 w4 mo mc (digest (und (padZ s) 54 ++ bs)) ((unhide H3).1.later r2).2.1
  rw [dig_len] at hsrc
  have H4 := hide (And.intro r1 (And.intro ((unhide H3).2.trans r2 (fun _ _ t => t)) (And.intro (Nat.le_trans (unhide H3).2.size r3) hsrc)))
  clear r1 r2 r3 hsrc H3
  go_wp2_with (at_builtin; refine wpList_append_n _ rfl (.tmp 21) (.tmp 22) 23 23 rfl 5 i0 Tryz.underlying23 (unhide HI) hz0 hz1 hz2 (ao := ao4) (n := 64) (cap := cap4) (g := g4) (bs := und (padZ s) 92) rfl (unhide H4).1 _ (digest (und (padZ s) 54 ++ bs)) 32 rfl (dig_len _) (unhide H4).2.2.2 (by omega) ?nx4)
  intro ao5 cap5 w5 g5 hrow hF hg
  have hF5 : Fr (fun _ => False) w w5 := (unhide H4).2.1.trans hF (fun i hi t => by have := (unhide H4).2.2.1; omega)
  have hb5 := hrow.batn (by omega)
  have HS := hide (rsum_any w5 ((unhide HT).later hF5) ao5 cap5 (und (padZ s) 92 ++ digest (und (padZ s) 54 ++ bs)) hb5.1 (by rw [hb5.2.1]; omega))
  rw [hb5.2.1] at HS
  have HF5 := hide hF5
  clear hrow hF hg hF5 hb5 H4
  go_wp2_with fail
  refine (unhide HS).mono ?_
  rintro e w6 ⟨v, rfl, hN⟩
  have hN6 : New w (hmac s bs) v w6 := hN.on (unhide HF5)
  obtain ⟨ro, rc, rfl⟩ : ∃ ao cap, v = .slice ao 32 cap := by
    obtain ⟨g, r, _⟩ := hN6
    obtain ⟨ao, cap, e, _⟩ := r.shape
    rw [hmac_length] at e
    exact ⟨ao, cap, e⟩
  have H6 := hide hN6
  clear hN hN6 HS
  go_wp2
  go_ret2
  exact ⟨_, _, rfl, unhide H6⟩

end Go.Proofs.YtabhfeocelljdaaGreatDoor

/- The document's own Seal and Open. -/
namespace Go.Proofs.YtabhfeocelljdaaGreatDoor
open Go.RowKit

set_option maxRecDepth 20000 in
theorem rseal_long (w : World) (s : List UInt8) (hs : 200 < s.length) (bv : Value) :
    Calls Tryz.prog 28 #[.string ⟨s.toArray⟩, bv] w fun e w' => e = .returned (.tuple #[.slice none 0 0, .int .i64 2]) ∧ w' = w := by
  go_enter Tryz.func28, Tryz.ntmps28
  go_wp2_with fail
  refine (rmac_long w s hs _).mono ?_
  rintro e w1 ⟨rfl, rfl⟩
  go_wp2
  go_ret2
  exact ⟨rfl, rfl⟩

set_option maxRecDepth 20000 in
set_option maxHeartbeats 1000000 in
theorem rseal_any (w : World) (hT : TabRZ w) (s : List UInt8) (hs : s.length ≤ 200) (bo : Option Addr) (bcap : Nat) (bs : List UInt8) (hB : BAt w bo bcap bs) (hfit : bs.length + 136 ≤ 140737488355328) :
    Calls Tryz.prog 28 #[.string ⟨s.toArray⟩, .slice bo bs.length bcap] w fun e w' => ∃ ao cap, e = .returned (.tuple #[.slice ao (bs.length + 16) cap, .int .i64 0]) ∧ New w (sealed s bs) (.slice ao (bs.length + 16) cap) w' := by
  have HM := hide (rmac_any w hT s hs bo bcap bs hB hfit)
  have HB := hide hB
  clear hT hB
  obtain ⟨i0, hi, hz0, hz1, hz2⟩ := info_parts Tryz.info5
  have HI := hide hi
  clear hi
  go_enter Tryz.func28, Tryz.ntmps28
  go_wp2_with fail
  refine (unhide HM).mono ?_
  rintro e w1 ⟨mo, mc, rfl, g1, r1, r2, r3⟩
  have h32 : 32 ≤ mc := (r1.batn (by omega)).2.2
  have H1 := hide (And.intro ((r1.front 16 (by omega)).batn (by omega)).1 r2)
  clear r1 r2 r3 HM
  go_wp2_with (at_builtin; refine wpList_append_n _ rfl (.tmp 18) (.tmp 19) 23 23 rfl 5 i0 Tryz.underlying23 (unhide HI) hz0 hz1 hz2 (ao := none) (n := 0) (cap := 0) (g := w1.heap.size) (bs := []) rfl (Row.nil _ _) _ bs bs.length rfl rfl ?hs (by omega) ?nx)
  case hs => exact src_slice Tryz.underlying23 _ _ _ bs ((unhide HB).later (unhide H1).2).2.1
  intro ao2 cap2 w2 g2 hrow hF hg
  have hF2 : Fr (fun _ => False) w1 w2 := hF.mono (fun i _ t => by omega)
  have hge : w.heap.size ≤ g2 := by have := (unhide H1).2.size; omega
  have hrow2 : Row w2 (.slice ao2 bs.length cap2) g2 bs := by simpa using hrow
  have hsrc := src_slice Tryz.underlying23 w2 mo mc ((hmac s bs).take 16) ((unhide H1).1.later hF2).2.1
  rw [take16] at hsrc
  have H2 := hide (And.intro hrow2 (And.intro ((unhide H1).2.trans hF2 (fun _ _ t => t)) hsrc))
  clear hrow hrow2 hF hg hF2 hsrc H1
  go_wp2_with (at_builtin; refine wpList_append_n _ rfl (.tmp 21) (.tmp 23) 23 23 rfl 5 i0 Tryz.underlying23 (unhide HI) hz0 hz1 hz2 (ao := ao2) (n := bs.length) (cap := cap2) (g := g2) (bs := bs) rfl (unhide H2).1 _ ((hmac s bs).take 16) 16 rfl (take16 _ _) (unhide H2).2.2 (by omega) ?nx2)
  intro ao4 cap4 w4 g4 hrow4 hF4 hg4
  have HN : Hid (New w (sealed s bs) (.slice ao4 (bs.length + 16) cap4) w4) := by
    refine ⟨g4, hrow4, (unhide H2).2.1.trans hF4 (fun i hi t => by omega), ?_⟩
    rcases hg4 with e | e
    · omega
    · have := (unhide H2).2.1.size; omega
  clear hrow4 hF4 hg4 H2
  go_wp2
  go_ret2
  exact ⟨_, _, rfl, unhide HN⟩

set_option maxRecDepth 20000 in
theorem ropen_long (w : World) (s : List UInt8) (hs : 200 < s.length) (bv : Value) :
    Calls Tryz.prog 32 #[.string ⟨s.toArray⟩, bv] w fun e w' => e = .returned (.tuple #[.slice none 0 0, .int .i64 2]) ∧ w' = w := by
  have hd : decide ((200 : Int) < (s.length : Int)) = true := by simp; omega
  go_enter Tryz.func32, Tryz.ntmps32
  go_wp2
  go_ret2
  exact ⟨rfl, rfl⟩

set_option maxRecDepth 20000 in
theorem ropen_short (w : World) (s : List UInt8) (hs : s.length ≤ 200) (ro : Option Addr) (n rc : Nat) (hn : n < 16) :
    Calls Tryz.prog 32 #[.string ⟨s.toArray⟩, .slice ro n rc] w fun e w' => e = .returned (.tuple #[.slice none 0 0, .int .i64 40]) ∧ w' = w := by
  have hd : decide ((200 : Int) < (s.length : Int)) = false := by simp; omega
  have h1 : decide ((n : Int) < 16) = true := decide_eq_true (by omega)
  go_enter Tryz.func32, Tryz.ntmps32
  go_wp2
  go_ret2
  exact ⟨rfl, rfl⟩

set_option maxRecDepth 20000 in
set_option maxHeartbeats 1000000 in
theorem ropen_any (w : World) (hT : TabRZ w) (s : List UInt8) (hs : s.length ≤ 200) (ro : Option Addr) (rc : Nat) (x y : List UInt8) (m : Nat) (hm : x.length = m) (hy : y.length = 16) (hB : BAt w ro rc (x ++ y)) (hcap : m + 16 ≤ rc) (hfit : m + 136 ≤ 140737488355328) :
    Calls Tryz.prog 32 #[.string ⟨s.toArray⟩, .slice ro (m + 16) rc] w fun e w' =>
      ((hmac s x).take 16 = y → ∃ ao cap, e = .returned (.tuple #[.slice ao m cap, .int .i64 0]) ∧ New w x (.slice ao m cap) w') ∧ (¬ (hmac s x).take 16 = y → e = .returned (.tuple #[.slice none 0 0, .int .i64 41]) ∧ Fr (fun _ => False) w w') := by
  have hsm := hB.2.2
  rw [List.length_append] at hsm
  obtain ⟨b, off, rfl, hX, _⟩ := hB.parts (by omega)
  have HT := hide hT
  have HX := hide hX
  have HB := hide hB
  have hd : decide ((200 : Int) < (s.length : Int)) = false := by simp; omega
  have h1 : decide ((m : Int) + 16 < 16) = false := decide_eq_false (by omega)
  obtain ⟨i0, hi, hz0, hz1, hz2⟩ := info_parts Tryz.info5
  have HI := hide hi
  clear hT hX hB hi
  go_enter Tryz.func32, Tryz.ntmps32
  have HS : Hid (Src Tryz.prog 1 23 (.slice (some ⟨b, off, none⟩) m rc) m (bytesV x) (w.alloc (.cells #[] 5))) := by
    have := src_slice Tryz.underlying23 (w.alloc (.cells #[] 5)) (some ⟨b, off, none⟩) rc x ((unhide HX).later ((Fr.refl _ w).alloc _)).2.1
    rw [hm] at this
    exact this
  go_wp2_with (at_builtin; refine wpList_append_n _ rfl (.tmp 15) (.tmp 20) 23 23 rfl 5 i0 Tryz.underlying23 (unhide HI) hz0 hz1 hz2 (ao := some ⟨w.heap.size, 0, none⟩) (n := 0) (cap := 0) (g := w.heap.size) (bs := []) rfl ?hr _ x m rfl hm ?hs (by omega) ?nx)
  case hr => exact Row.empty (Nat.zero_le _) (fun j hj => absurd hj (by omega))
  case hs => exact unhide HS
  intro ao2 cap2 w2 g2 hrow hF hg
  have hF2 : Fr (fun _ => False) w w2 := ((Fr.refl (fun _ => False) w).alloc (.cells #[] 5)).trans hF (fun i hi t => by omega)
  have hge : w.heap.size ≤ g2 := by
    have := World.size_alloc_le w (.cells #[] 5)
    omega
  have hrow2 : Row w2 (.slice ao2 m cap2) g2 x := by simpa using hrow
  have hb2 := hrow2.batn (by omega)
  have HSe := hide (rseal_any w2 ((unhide HT).later hF2) s hs ao2 cap2 x hb2.1 (by omega))
  rw [hm] at HSe
  have H2 := hide (And.intro hrow2 hF2)
  clear hrow hrow2 hF hg hF2 hb2 HS
  go_wp2_with fail
  refine (unhide HSe).mono ?_
  rintro e w3 ⟨so, sc, rfl, g3, r1, r2, r3⟩
  have hb3 := r1.batn (by omega)
  have cvs := conv_bytes hb3.1
  rw [hb3.2.1] at cvs
  have hF3 := (unhide H2).2.trans r2 (fun _ _ t => t)
  have cvb := conv_bytes ((unhide HB).later hF3)
  rw [List.length_append, hm, hy] at cvb
  have HN := hide (And.intro ((unhide H2).1.frame r2 (fun t => t)) (And.intro hF3 hge))
  clear r1 r2 r3 hb3 hF3 HSe H2
  by_cases he : (hmac s x).take 16 = y
  · have hse : sealed s x = x ++ y := by unfold sealed; rw [he]
    rw [hse] at cvs
    have HE := hide he
    clear he hse
    generalize x ++ y = R at *
    go_wp2
    go_ret2
    exact ⟨fun _ => ⟨_, _, rfl, g2, unhide HN⟩, fun t => absurd (unhide HE) t⟩
  · have hse : ¬ sealed s x = x ++ y := by unfold sealed; intro t; exact he (List.append_cancel_left t)
    have HE := hide he
    have hne : (sealed s x == x ++ y) = false := by simpa using hse
    clear he hse
    generalize x ++ y = R at *
    generalize sealed s x = Z at *
    go_wp2
    go_ret2
    exact ⟨fun t => absurd t (unhide HE), fun _ => ⟨rfl, (unhide HN).2.1⟩⟩

end Go.Proofs.YtabhfeocelljdaaGreatDoor

/- Links' secrets: the program's and the document's. -/
namespace Go.Proofs.YtabhfeocelljdaaGreatDoor
open Go.RowKit

/-- What a link's secret is, and its error. -/
def lsec (s : List UInt8) (n : Int) : List UInt8 × Int :=
  if 200 < s.length then ([], 2) else if n < 0 ∨ 65535 < n then ([], 1) else (hmac (hmac s (devB n.toNat)) (devB 0), 0)

end Go.Proofs.YtabhfeocelljdaaGreatDoor

