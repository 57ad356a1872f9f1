/- The document's own Sum. -/
import Derived.Test.YtgklgbomfipagaaDoorR4
namespace Go.Proofs.YtgklgbomfipagaaDoor
open Go.RowKit

/-- Where the document's Sum has come to. -/
def Smg (w wr : World) (hb g : Nat) (all : List UInt8) (f : Nat → Nat) : Prop := Blk wr hb 49 8 (wv f) ∧ (∀ j (hj : j < all.length), wr.cell? ⟨g, j, none⟩ = some (.int .u8 all[j].toNat)) ∧ Fr (fun _ => False) w wr ∧ w.heap.size ≤ hb ∧ g ≠ hb

set_option maxHeartbeats 2000000 in
theorem rsum_any (w : World) (hT : TabR w) (ao : Option Addr) (cap : Nat) (bs : List UInt8) (hB : BAt w ao cap bs) (hfit : bs.length + 72 ≤ 140737488355328) :
    Calls Tryd.prog 28 #[.slice ao bs.length cap] w fun e w' => ∃ v, e = .returned v ∧ New w (digest bs) v w' := by
  have HT := hide hT
  have HB := hide hB
  clear hT hB
  have HN := hide (Blk.new w 49 8 (wv fun _ => 0))
  go_enter Tryd.func28, Tryd.ntmps28
  go_wp2_with (first | refine wpList_load_arr rfl 49 (.global 0) rfl 0 0 rfl 8 (wv hw0) _ (fun j hj => by rw [Nat.zero_add]; exact (unhide HT).1 j hj) Tryd.underlying49 rfl n49 ?_ | refine wpList_store_row rfl 49 (.tmp 3) (.tmp 8) rfl w.heap.size (arr 8 (wv hw0)) rfl rfl 49 (arr 8 (wv fun _ => 0)) ?hb (size49 _) (by rw [arr_size, arr_size]) (arr_one _ _ (fun _ => rfl)) ?_)
  case hb =>
    rw [zero8]
    exact unhide HN
  rw [zero8]
  have HM := hide (And.intro ((unhide HN).row (wv hw0)) (((Fr.refl (fun _ => False) w).alloc (.cells (arr 8 (wv fun _ => 0)) 49)).setRow (g := w.heap.size) (fun t => absurd t (Nat.lt_irrefl _)) (arr 8 (wv hw0))))
  generalize ((w.alloc (.cells (arr 8 (wv fun _ => 0)) 49)).setRow w.heap.size (arr 8 (wv hw0))) = w1 at *
  obtain ⟨hb, hhb⟩ : ∃ b, w.heap.size = b := ⟨_, rfl⟩
  rw [hhb] at HM ⊢
  clear HN
  go_wp2_with fail
  refine (filled_any w1 ao cap bs ((unhide HB).later (unhide HM).2) hfit).mono ?_
  rintro e w2 ⟨v, rfl, g, m1, m2, m3⟩
  obtain ⟨ao2, c, rfl, hlc, _, had, _⟩ := m1.shape
  have hll : (bs ++ fill bs.length).length = bs.length + (72 - (bs.length + 8) % 64) := by rw [List.length_append, fill_length]
  have hao : ao2 = some ⟨g, 0, none⟩ := had (by omega)
  subst hao
  obtain ⟨all, hall⟩ : ∃ l, l = bs ++ fill bs.length := ⟨_, rfl⟩
  rw [← hall] at m1 hlc hll ⊢
  have HA := hide hall
  have HS0 : Hid (Smg w w2 hb g all (absorb all 0)) := ⟨(unhide HM).1.later m2, fun j hj => m1.cells j hj, (unhide HM).2.trans m2 (fun _ _ t => t), by omega, by have := (unhide HM).1.lt; omega⟩
  have hL64 : all.length % 64 = 0 := by omega
  have hLs : all.length ≤ 140737488355328 := by omega
  clear m1 m2 m3 hall hll had HM
  go_wp2
  go_loopw [5] (fun iv wr => ∃ k : Nat, 64 * k ≤ all.length ∧ iv = .int .i64 (64 * k : Nat) ∧ Hid (Smg w wr hb g all (absorb all k))) (fun iv _ => all.length - (intOf iv).toNat)
  case atStart => exact ⟨0, Nat.zero_le _, rfl, unhide HS0⟩
  case round =>
    clear HS0
    obtain ⟨k, hk, rfl, HS⟩ := hrel
    obtain ⟨i, hi⟩ : ∃ i, i = 64 * k := ⟨_, rfl⟩
    rw [← hi] at hk ⊢
    by_cases hlt : i < all.length
    · have hi64 : i + 64 ≤ all.length := by omega
      have HC := hide (rchange_any wr.drew ((unhide HT).later (unhide HS).2.2.1.drew) (absorb all k) (absorb_lt all k) g i (c - i) (fun j => all.getD (64 * k + j) 0) (fun j hj => by
        have := (unhide HS).2.1 (i + j) (by omega)
        rw [← hi, List.getD_eq_getElem?_getD, List.getElem?_eq_getElem (by omega)]
        exact this))
      have HI := hide hi
      clear hi
      go_wp2
      refine rs6_any wr hb g all.length c i (absorb all k) (absorb all (k + 1)) (unhide HS).1 hi64 hlc hLs (unhide HC) _ _ _ _ _ _ _ _ _ _ _ _ _ _ _ _ _ _ _ _ _ _ _ _ _ _ _ _ _ _ _ _ _ _ _ _ _ _ _ _ _ _ _ _ _ _ _ _ (fun _ _ _ _ _ h => h) ?_
      intro w9 k1 k2
      have HN : Hid (Smg w w9 hb g all (absorb all (k + 1))) := by
        obtain ⟨n1, n2, n3, n4, n5⟩ := unhide HS
        exact ⟨k1, fun j hj => (k2.cell (a := ⟨g, j, none⟩) (World.block_lt_of_cell? _ _ (n2 j hj)) n5).trans (n2 j hj), n3.trans k2 (fun i hi t => by omega), n4, n5⟩
      clear k1 k2 HC
      go_wp2
      refine ⟨⟨k + 1, by have := unhide HI; omega, ?_, unhide HN⟩, by simp [intOf]; omega⟩
      have := unhide HI
      refine congrArg (Value.int .i64) ?_
      omega
    · have hkf : k = all.length / 64 := by omega
      obtain ⟨f, hf⟩ : ∃ f, f = absorb all k := ⟨_, rfl⟩
      rw [← hf] at HS
      have hfl : ∀ j, f j < 4294967296 := fun j => by rw [hf]; exact absorb_lt _ _ _
      have hdg : digest bs = wbytes f 8 := by rw [hf, hkf, unhide HA]; rfl
      have HF := hide (And.intro hfl hdg)
      clear hf hfl hdg hkf
      go_wp2
      go_loopw [6, 7] (fun ov iv wr => ∃ m : Nat, ∃ oo oc ol, m ≤ 8 ∧ ol = 4 * m ∧ iv = .int .i64 m ∧ ov = .slice oo ol oc ∧ Hid ((Blk wr hb 49 8 (wv f) ∧ Fr (fun _ => False) w wr ∧ w.heap.size ≤ hb) ∧ ∃ go, Row wr (.slice oo ol oc) go (wbytes f m) ∧ (0 < oc → w.heap.size ≤ go) ∧ go ≠ hb)) (fun _ iv _ => 8 - (intOf iv).toNat)
      case atStart => exact ⟨0, none, 0, 0, by omega, rfl, rfl, rfl, ⟨(unhide HS).1, (unhide HS).2.2.1, (unhide HS).2.2.2.1⟩, hb + 1, Row.nil _ _, fun h => absurd h (by omega), by omega⟩
      case round =>
        clear HS
        obtain ⟨m, oo, oc, ol, hm, hol, rfl, rfl, HS⟩ := hrel
        by_cases hlt8 : m < 8
        · obtain ⟨⟨n1, n3, n4⟩, go, q1, q2, q3⟩ := unhide HS
          have cm : wr.cell? ⟨hb, m, none⟩ = some (.int .u32 (f m)) := n1.cell m hlt8
          have HP := hide (And.intro q1 (And.intro q2 (And.intro q3 (And.intro cm (And.intro n4 (And.intro n3 n1))))))
          clear n1 n3 n4 q1 q2 q3 cm
          go_wp2
          refine rs11_any wr hb m (f m) ol oc go oo (wbytes f m) ((unhide HF).1 m) hlt8 (by rw [wbytes_length, hol]) (unhide HP).1 (unhide HP).2.2.1 (by omega) (unhide HP).2.2.2.1 _ _ _ _ _ _ _ _ _ _ _ _ _ _ _ _ _ _ _ _ _ _ _ _ _ _ _ _ _ _ _ _ _ _ _ _ _ _ _ _ _ _ _ _ _ _ _ _ (fun _ _ _ _ _ h => h) ?_
          intro w9 ao6 cap6 g6 r1 r2 r3
          have HN : Hid ((Blk w9 hb 49 8 (wv f) ∧ Fr (fun _ => False) w w9 ∧ w.heap.size ≤ hb) ∧ ∃ go, Row w9 (.slice ao6 (ol + 4) cap6) go (wbytes f (m + 1)) ∧ (0 < cap6 → w.heap.size ≤ go) ∧ go ≠ hb) := by
            obtain ⟨q1, q2, q3, cm, n4, n3, n1⟩ := unhide HP
            have hge := n3.size
            have hbl := n1.lt
            refine ⟨⟨n1.frame r2 (fun t => q3 t.1.symm), n3.trans r2 (fun i hi t => by have := q2 t.2; omega), n4⟩, g6, r1, fun hc => ?_, ?_⟩
            · rcases r3 with ⟨e1, e2⟩ | e
              · rw [e1]; exact q2 (by omega)
              · omega
            · rcases r3 with ⟨e1, e2⟩ | e
              · rw [e1]; exact q3
              · omega
          clear r1 r2 r3
          go_wp2
          exact ⟨⟨m + 1, ao6, cap6, ol + 4, by omega, by omega, by go_num, rfl, unhide HN⟩, by simp [intOf]; omega⟩
        · obtain rfl : m = 8 := by omega
          have HZ : Hid (New w (digest bs) (.slice oo ol oc) wr) := by
            obtain ⟨⟨n1, n3, n4⟩, go, q1, q2, q3⟩ := unhide HS
            obtain ⟨_, _, e, hle, _⟩ := q1.shape
            injection e with _ _ e
            subst e
            rw [wbytes_length] at hle
            rw [(unhide HF).2]
            exact ⟨go, q1, n3, q2 (by omega)⟩
          go_wp2
          go_ret
          exact ⟨_, rfl, unhide HZ⟩

end Go.Proofs.YtgklgbomfipagaaDoor
