/- The document's own Join. -/
import Derived.Test.YtgbaofdbdpopnaaDoorS8
import Derived.Test.YtgbaofdbdpopnaaDoorR1
namespace Go.Proofs.YtgbaofdbdpopnaaDoor
open Go.RowKit

theorem Tryd.info40 : (Tryd.prog.info? 40).map (fun i => (i.zero, i.size, i.bytes)) = some (some (.int .u32 0), 1, 4) := by kernel_rfl

/-- The first of 32 numbers, as values. -/
def colsV (f : Nat → Nat) (n : Nat) : List Value := (List.range n).map fun j => Value.int .u32 (f j)

theorem colsV_length (f : Nat → Nat) (n : Nat) : (colsV f n).length = n := by simp [colsV]
theorem colsV_get (f : Nat → Nat) (n j : Nat) (hj : j < n) : (colsV f n)[j]? = some (.int .u32 (f j)) := by simp [colsV, hj]
theorem colsV_succ (f : Nat → Nat) (n : Nat) : colsV f (n + 1) = colsV f n ++ [.int .u32 (f n)] := by simp [colsV, List.range_succ]

/-- A row of 32 numbers can be read. -/
def MAt (w : World) (mo : Option Addr) (f : Nat → Nat) : Prop := ∃ g, mo = some ⟨g, 0, none⟩ ∧ ∀ j, j < 32 → w.cell? ⟨g, j, none⟩ = some (.int .u32 (f j))

theorem MAt.later {w w' : World} {mo : Option Addr} {f : Nat → Nat} (h : MAt w mo f) (hF : Fr (fun _ => False) w w') : MAt w' mo f := by
  obtain ⟨g, e, hc⟩ := h
  exact ⟨g, e, fun j hj => (hF.cell (a := ⟨g, j, none⟩) (World.block_lt_of_cell? _ _ (hc j hj)) (fun t => t)).trans (hc j hj)⟩

theorem times_any (w : World) (k : Nat) (mo : Option Addr) (mc : Nat) (hM : MAt w mo (fun j => trn k (2 ^ j))) (n : Nat) (hn : n < 4294967296) :
    Calls Tryd.prog 28 #[.slice mo 32 mc, .int .u32 n] w fun e w' => e = .returned (.int .u32 (trn k n)) ∧ w' = w := by
  obtain ⟨g, rfl, hc⟩ := hM
  have HC := hide hc
  clear hc
  go_enter Tryd.func28, Tryd.ntmps28
  go_wp2
  go_loopw [1, 5, 6] (fun nv ov iv wr => ∃ i : Nat, i ≤ 32 ∧ iv = .int .i64 i ∧ nv = .int .u32 (n / 2 ^ i : Nat) ∧ ov = .int .u32 (trn k (n % 2 ^ i)) ∧ w = wr) (fun _ _ iv _ => 32 - (intOf iv).toNat)
  case atStart => exact ⟨0, Nat.zero_le _, rfl, by simp, by simp [Nat.mod_one, trn_zero], rfl⟩
  case round =>
    obtain ⟨i, hi, rfl, rfl, rfl, rfl⟩ := hrel
    by_cases hlt : i < 32
    · have ci := unhide HC i hlt
      have hmod : n % 2 ^ i < 4294967296 := Nat.lt_of_le_of_lt (Nat.mod_le _ _) hn
      have hdv : n / 2 ^ i < 4294967296 := Nat.lt_of_le_of_lt (Nat.div_le_self _ _) hn
      have hh : n / 2 ^ (i + 1) = n / 2 ^ i / 2 := by rw [Nat.pow_succ, Nat.div_div_eq_div_mul]
      by_cases hb : n / 2 ^ i % 2 = 1
      · have hx := u32_xor_nat (trn k (n % 2 ^ i)) (trn k (2 ^ i)) (trn_lt k hmod) (trn_lt k (Nat.pow_lt_pow_right (by omega) (show i < 32 from hlt)))
        rw [← bit_more k n i hb] at hx
        have HH := hide hh
        generalize n / 2 ^ i = q at *
        have hbi : ((q : Int) % 2 == 1) = true := by simp; omega
        clear hb hh
        go_wp2
        exact ⟨⟨i + 1, by omega, by go_num, by rw [unhide HH]; simp, rfl, trivial⟩, by simp [intOf]; omega⟩
      · have hx := bit_same k n i hb
        have HX := hide hx
        have HH := hide hh
        generalize n / 2 ^ i = q at *
        have hbi : ((q : Int) % 2 == 1) = false := by simp; omega
        clear hb hh hx
        go_wp2
        exact ⟨⟨i + 1, by omega, by go_num, by rw [unhide HH]; simp, by rw [unhide HX], trivial⟩, by simp [intOf]; omega⟩
    · obtain rfl : i = 32 := by omega
      rw [show n % 2 ^ 32 = n from Nat.mod_eq_of_lt hn] at *
      go_wp2
      go_ret
      exact ⟨rfl, rfl⟩

/-- A row of numbers under way, and nothing that was there has turned. -/
def MRow (w wr : World) (ao : Option Addr) (cap g : Nat) (f : Nat → Nat) (i : Nat) : Prop := VRow wr ao cap g (colsV f i) ∧ Fr (fun _ => False) w wr ∧ (0 < cap → w.heap.size ≤ g)

theorem MRow.start (w wr : World) (hF : Fr (fun _ => False) w wr) (f : Nat → Nat) : MRow w wr none 0 0 f 0 := ⟨VRow.nil wr 0, hF, fun h => absurd h (by omega)⟩

theorem MRow.next {w wr w' : World} {ao ao' : Option Addr} {cap g cap' g' : Nat} {f : Nat → Nat} {i : Nat} (h : MRow w wr ao cap g f i) (o : Obj) (hr : VRow w' ao' cap' g' (colsV f i ++ [.int .u32 (f i)])) (hg : Grew (wr.alloc o) g cap w' g' cap') : MRow w w' ao' cap' g' f (i + 1) := by
  obtain ⟨_, h2, h3⟩ := h
  rw [← colsV_succ] at hr
  have hF := h2.alloc o
  rcases hg with ⟨rfl, rfl, hf⟩ | ⟨hn, hc, hf⟩
  · exact ⟨hr, hF.trans hf (fun k hk t => by have := h3 t.2; omega), h3⟩
  · exact ⟨hr, hF.trans hf (fun _ _ t => t), fun _ => Nat.le_trans hF.size hn⟩

theorem MRow.full {w wr : World} {ao : Option Addr} {cap g : Nat} {f : Nat → Nat} (h : MRow w wr ao cap g f 32) : MAt wr ao f := by
  obtain ⟨h1, _, _⟩ := h
  have hle := h1.le
  rw [colsV_length] at hle
  refine ⟨g, h1.ad (by omega), fun j hj => ?_⟩
  have hj2 : j < (colsV f 32).length := by rw [colsV_length]; exact hj
  have := h1.cells j hj2
  have e := colsV_get f 32 j hj
  rw [List.getElem?_eq_getElem hj2] at e
  rw [this, Option.some.inj e]

theorem src_one (w : World) (v : Nat) : Src Tryd.prog 1 44 (.slice (some ⟨w.heap.size, 0, none⟩) 1 1) 1 [.int .u32 v] (w.alloc (.cells #[.int .u32 v] 40)) := by
  refine Src.ofSlice _ Tryd.underlying44 ⟨w.heap.size, 0, none⟩ 1 1 [.int .u32 v] rfl (fun j u hj => ?_) (fun u hu => ?_)
  · match j, hj with
    | 0, hj =>
      cases hj
      rw [Addr.add_lit, World.cell?_alloc_new]
      rfl
    | j + 1, hj => simp at hj
  · cases List.mem_singleton.1 hu
    rfl

set_option maxHeartbeats 2000000 in
set_option maxRecDepth 100000 in
theorem rjoin_any (w : World) (x y n : Int) (hn : n < 9223372036854775808) :
    Calls Tryd.prog 17 #[.int .i64 x, .int .i64 y, .int .i64 n] w fun e w' => e = .returned (joinV x y n) ∧ Fr (fun _ => False) w w' := by
  obtain ⟨i0, hi, hz0, hz1, hz2⟩ := info_parts Tryd.info40
  have HI := hide hi
  clear hi
  by_cases hok : isS x = true ∧ isS y = true ∧ 0 ≤ n
  · obtain ⟨hx, hy, h0⟩ := hok
    obtain ⟨X, rfl, hX⟩ := isS_nat hx
    obtain ⟨Y, rfl, hY⟩ := isS_nat hy
    obtain ⟨m, rfl⟩ : ∃ m : Nat, n = m := ⟨n.toNat, by omega⟩
    rw [joinV_nat m hX hY]
    have hw : IntKind.u32.wrap (X : Int) = (X : Int) := by rw [IntKind.wrap_u32']; omega
    have hw2 : IntKind.u32.wrap (Y : Int) = (Y : Int) := by rw [IntKind.wrap_u32']; omega
    have hl := trn_lt (8 * m) hX
    have hjl := joinF_lt m hX hY
    have hxx : bits .xor .u32 ((trn (8 * m) X : Nat) : Int) (Y : Int) = ((joinF X Y m : Nat) : Int) := u32_xor_nat _ Y (by omega) (by omega)
    have hd : decide ((m : Int) < 0) = false := by simp
    obtain ⟨T, hTT⟩ : ∃ T, trn (8 * m) X = T := ⟨_, rfl⟩
    rw [hTT] at hl hxx
    have HTT := hide hTT
    clear hTT h0
    obtain ⟨F, hF⟩ : ∃ F : Nat → Nat, F = fun j => trn 8 (2 ^ j) := ⟨_, rfl⟩
    have HF := hide hF
    clear hF
    go_enter Tryd.func17, Tryd.ntmps17
    go_wp2_with fail
    refine (may_any _ _).mono ?_
    rintro e w1 ⟨rfl, rfl⟩
    rw [hx]
    go_wp2_with fail
    refine (may_any _ _).mono ?_
    rintro e w1 ⟨rfl, rfl⟩
    rw [hy]
    have hm63 : m < 9223372036854775808 := by omega
    have HALL := hide (And.intro hm63 (And.intro hw (And.intro hw2 (And.intro hl (And.intro hjl (And.intro hxx (And.intro hX hY)))))))
    clear hn hm63
    go_wp2
    clear hw hw2 hl hjl hxx hX hY hd hx hy
    go_loopw [10, 11, 12] (fun mv iv _ wr => ∃ i : Nat, i ≤ 32 ∧ iv = .int .i64 i ∧ ∃ ao cap g, mv = .slice ao i cap ∧ Hid (MRow w1 wr ao cap g F i)) (fun _ iv _ _ => 32 - (intOf iv).toNat)
    case atStart => exact ⟨0, Nat.zero_le _, rfl, none, 0, 0, rfl, MRow.start _ _ (Fr.refl _ _) F⟩
    case round =>
      obtain ⟨i, hi32, rfl, ao, cap, g, rfl, HM⟩ := hrel
      by_cases hlt : i < 32
      · have hs1 := shl_one i hlt
        go_wp2_with fail
        have h8 := turns_any wr (2 ^ i) 8 (Nat.pow_lt_pow_right (by omega) hlt) (by omega)
        rw [two_pow, show trn 8 (2 ^ i) = F i by rw [unhide HF]] at h8
        refine h8.mono ?_
        rintro e w2 ⟨rfl, rfl⟩
        clear h8 hs1
        go_wp2_with (at_builtin; refine wpList_append_vrow _ rfl (.tmp 38) (.tmp 40) 44 44 rfl 40 i0 (.int .u32 0) Tryd.underlying44 (unhide HI) hz0 rfl hz1 (ao := ao) (cap := cap) (g := g) (n := i) (vs := colsV F i) rfl ((unhide HM).1.stay (fun hc => Below.heap_alloc _ _ _ ((unhide HM).1.lt hc))) (colsV_length F i) _ [.int .u32 (F i)] 1 rfl rfl (src_one w2 (F i)) (by rw [hz2]; omega) (by omega) ?next1)
        intro ao' cap' w3 g' hrow hgr
        have HN := hide ((unhide HM).next _ hrow hgr)
        clear hrow hgr
        go_wp2
        exact ⟨⟨i + 1, by omega, by go_num, ao', cap', g', rfl, unhide HN⟩, by simp [intOf]; omega⟩
      · obtain rfl : i = 32 := by omega
        have HMA := hide (And.intro (unhide HM).full (unhide HM).2.1)
        clear HM
        have hw := (unhide HALL).2.1
        go_wp2
        clear hw
        go_loopw [2, 10, 13, 14, 15, 16] (fun nv mv rv _ _ _ wr => ∃ xr k K : Nat, k < 9223372036854775808 ∧ nv = .int .i64 k ∧ rv = .int .u32 xr ∧ ∃ mo mc, mv = .slice mo 32 mc ∧ Hid (MAt wr mo (fun j => trn K (2 ^ j)) ∧ Fr (fun _ => False) w1 wr ∧ xr < 4294967296 ∧ trn (K * k) xr = T)) (fun nv _ _ _ _ _ _ => (intOf nv).toNat)
        case atStart =>
          refine ⟨X, m, 8, (unhide HALL).1, rfl, rfl, ao, cap, rfl, ?_, (unhide HMA).2, (unhide HALL).2.2.2.2.2.2.1, unhide HTT⟩
          rw [← unhide HF]
          exact (unhide HMA).1
        case round =>
          obtain ⟨xr, k, K, hk, rfl, rfl, mo, mc, rfl, HS⟩ := hrel
          by_cases h0 : 0 < k
          · obtain ⟨F2, hF2⟩ : ∃ F : Nat → Nat, F = fun j => trn (K + K) (2 ^ j) := ⟨_, rfl⟩
            have HF2 := hide hF2
            clear hF2
            by_cases ho : k % 2 = 1
            · have hbi : ((k : Int) % 2 == 1) = true := by simp; omega
              have HT2 := hide ((half_odd K k xr ho).symm.trans (unhide HS).2.2.2)
              clear ho
              go_wp2_with fail
              refine (times_any wr K mo mc (unhide HS).1 xr (unhide HS).2.2.1).mono ?_
              rintro e w2 ⟨rfl, rfl⟩
              go_wp2
              go_loopw [14, 15, 16] (fun mv iv _ wr' => ∃ i : Nat, i ≤ 32 ∧ iv = .int .i64 i ∧ ∃ ao cap g, mv = .slice ao i cap ∧ Hid (MRow w2 wr' ao cap g F2 i)) (fun _ iv _ _ => 32 - (intOf iv).toNat)
              case atStart => exact ⟨0, Nat.zero_le _, rfl, none, 0, 0, rfl, MRow.start _ _ (Fr.refl _ _) F2⟩
              case round =>
                obtain ⟨i, hi32, rfl, ao, cap, g, rfl, HM⟩ := hrel
                by_cases hlt : i < 32
                · have hMi := (unhide HS).1.later (unhide HM).2.1
                  obtain ⟨gm, rfl, hcm⟩ := hMi
                  have ci := hcm i hlt
                  have HMi := hide hcm
                  clear hcm
                  go_wp2_with fail
                  have ht := times_any wr K (some ⟨gm, 0, none⟩) mc ⟨gm, rfl, unhide HMi⟩ (trn K (2 ^ i)) (trn_lt K (Nat.pow_lt_pow_right (by omega) hlt))
                  rw [show trn K (trn K (2 ^ i)) = F2 i by rw [unhide HF2]; exact (trn_add K K _).symm] at ht
                  refine ht.mono ?_
                  rintro e w2 ⟨rfl, rfl⟩
                  clear ht ci
                  go_wp2_with (at_builtin; refine wpList_append_vrow _ rfl (.tmp 62) (.tmp 64) 44 44 rfl 40 i0 (.int .u32 0) Tryd.underlying44 (unhide HI) hz0 rfl hz1 (ao := ao) (cap := cap) (g := g) (n := i) (vs := colsV F2 i) rfl ((unhide HM).1.stay (fun hc => Below.heap_alloc _ _ _ ((unhide HM).1.lt hc))) (colsV_length F2 i) _ [.int .u32 (F2 i)] 1 rfl rfl (src_one w2 (F2 i)) (by rw [hz2]; omega) (by omega) ?_)
                  intro ao' cap' w3 g' hrow hgr
                  have HN := hide ((unhide HM).next _ hrow hgr)
                  clear hrow hgr
                  go_wp2
                  first
                  | exact ⟨⟨i + 1, by omega, by go_num, ao', cap', g', rfl, unhide HN⟩, by simp [intOf]; omega⟩
                  | refine ⟨?_, ?_⟩
                    · repeat apply Exists.intro
                      refine ⟨?_, rfl⟩
                      exact ⟨i + 1, by omega, by go_num, ao', cap', g', rfl, unhide HN⟩
                    · show 32 - (intOf (.int .i64 ((i : Int) + 1))).toNat < 32 - (intOf (.int .i64 (i : Int))).toNat
                      simp [intOf]; omega
                · obtain rfl : i = 32 := by omega
                  have HMA2 := hide (And.intro (unhide HM).full (unhide HM).2.1)
                  clear HM
                  go_wp2
                  refine ⟨?_, ?_⟩
                  · repeat apply Exists.intro
                    refine ⟨?_, rfl⟩
                    refine ⟨trn K xr, k / 2, K + K, by omega, by go_num, rfl, ao, cap, rfl, ?_, (unhide HS).2.1.trans (unhide HMA2).2 (fun _ _ t => t), trn_lt K (unhide HS).2.2.1, unhide HT2⟩
                    rw [← unhide HF2]
                    exact (unhide HMA2).1
                  · show (intOf (.int .i64 ((k : Int) / 2))).toNat < (intOf (.int .i64 (k : Int))).toNat
                    simp [intOf]; omega
            · have hbi : ((k : Int) % 2 == 1) = false := by simp; omega
              have HT2 := hide ((half_even K k xr ho).symm.trans (unhide HS).2.2.2)
              clear ho
              go_wp2
              rename World => wo
              go_loopw [14, 15, 16] (fun mv iv _ wr' => ∃ i : Nat, i ≤ 32 ∧ iv = .int .i64 i ∧ ∃ ao cap g, mv = .slice ao i cap ∧ Hid (MRow wo wr' ao cap g F2 i)) (fun _ iv _ _ => 32 - (intOf iv).toNat)
              case atStart => exact ⟨0, Nat.zero_le _, rfl, none, 0, 0, rfl, MRow.start _ _ (Fr.refl _ _) F2⟩
              case round =>
                obtain ⟨i, hi32, rfl, ao, cap, g, rfl, HM⟩ := hrel
                by_cases hlt : i < 32
                · have hMi := (unhide HS).1.later (unhide HM).2.1
                  obtain ⟨gm, rfl, hcm⟩ := hMi
                  have ci := hcm i hlt
                  have HMi := hide hcm
                  clear hcm
                  go_wp2_with fail
                  have ht := times_any wr K (some ⟨gm, 0, none⟩) mc ⟨gm, rfl, unhide HMi⟩ (trn K (2 ^ i)) (trn_lt K (Nat.pow_lt_pow_right (by omega) hlt))
                  rw [show trn K (trn K (2 ^ i)) = F2 i by rw [unhide HF2]; exact (trn_add K K _).symm] at ht
                  refine ht.mono ?_
                  rintro e w2 ⟨rfl, rfl⟩
                  clear ht ci
                  go_wp2_with (at_builtin; refine wpList_append_vrow _ rfl (.tmp 62) (.tmp 64) 44 44 rfl 40 i0 (.int .u32 0) Tryd.underlying44 (unhide HI) hz0 rfl hz1 (ao := ao) (cap := cap) (g := g) (n := i) (vs := colsV F2 i) rfl ((unhide HM).1.stay (fun hc => Below.heap_alloc _ _ _ ((unhide HM).1.lt hc))) (colsV_length F2 i) _ [.int .u32 (F2 i)] 1 rfl rfl (src_one w2 (F2 i)) (by rw [hz2]; omega) (by omega) ?_)
                  intro ao' cap' w3 g' hrow hgr
                  have HN := hide ((unhide HM).next _ hrow hgr)
                  clear hrow hgr
                  go_wp2
                  first
                  | exact ⟨⟨i + 1, by omega, by go_num, ao', cap', g', rfl, unhide HN⟩, by simp [intOf]; omega⟩
                  | refine ⟨?_, ?_⟩
                    · repeat apply Exists.intro
                      refine ⟨?_, rfl⟩
                      exact ⟨i + 1, by omega, by go_num, ao', cap', g', rfl, unhide HN⟩
                    · show 32 - (intOf (.int .i64 ((i : Int) + 1))).toNat < 32 - (intOf (.int .i64 (i : Int))).toNat
                      simp [intOf]; omega
                · obtain rfl : i = 32 := by omega
                  have HMA2 := hide (And.intro (unhide HM).full (unhide HM).2.1)
                  clear HM
                  go_wp2
                  refine ⟨⟨xr, k / 2, K + K, by omega, by go_num, rfl, ao, cap, rfl, ?_, (unhide HS).2.1.trans (unhide HMA2).2 (fun _ _ t => t), (unhide HS).2.2.1, unhide HT2⟩, by simp [intOf]; omega⟩
                  rw [← unhide HF2]
                  exact (unhide HMA2).1
          · obtain rfl : k = 0 := by omega
            have hxT : xr = T := (unhide HS).2.2.2
            subst hxT
            obtain ⟨_, _, hw2, hl, hjl, hxx, _, _⟩ := unhide HALL
            go_wp2
            go_ret2
            exact ⟨rfl, (unhide HS).2.1⟩
  · rw [joinV_no hok]
    have hgo : (!isS x || (!isS y || decide (n < 0))) = true := by
      cases hx : isS x <;> cases hy : isS y <;> simp [hx, hy] at hok ⊢
      omega
    clear hok hn
    go_enter Tryd.func17, Tryd.ntmps17
    go_wp2_with fail
    refine (may_any _ _).mono ?_
    rintro e w1 ⟨rfl, rfl⟩
    go_wp2_with fail
    refine (may_any _ _).mono ?_
    rintro e w1 ⟨rfl, rfl⟩
    cases hx : isS x with
    | false =>
      clear hgo
      go_wp2
      go_ret2
      exact ⟨rfl, Fr.refl _ _⟩
    | true =>
      cases hy : isS y with
      | false =>
        clear hgo
        go_wp2
        go_ret2
        exact ⟨rfl, Fr.refl _ _⟩
      | true =>
        have hd : decide (n < 0) = true := by simpa [hx, hy] using hgo
        clear hgo
        go_wp2
        go_ret2
        exact ⟨rfl, Fr.refl _ _⟩

end Go.Proofs.YtgbaofdbdpopnaaDoor
