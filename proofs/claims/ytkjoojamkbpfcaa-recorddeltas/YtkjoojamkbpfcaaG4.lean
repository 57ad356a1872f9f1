/- The document's own readings: lists of tokens, deltas. -/
import Derived.Test.YtkjoojamkbpfcaaNA
import Derived.Test.YtkjoojamkbpfcaaG2
namespace Go.Proofs.Ytkjoojamkbpfcaa
open Go.RowKit

theorem XAt.frame2 {S : Nat → Prop} {w w' : World} {p : Nat} {ao : Option Addr} {cap : Nat} {bs : List UInt8} {s : RS} (h : XAt w p ao cap bs s) (hf : Fr S w w') (hp : ¬ S p) (hr : ∀ b off, ao = some ⟨b, off, none⟩ → 0 < bs.length → ¬ S b) : XAt w' p ao cap bs s :=
  h.stay (hf.block p h.lt hp) (fun b off e h0 hb => hf.block b hb (hr b off e h0))

/-- A list that the document's reader is reading: the reader, the row. -/
structure XL (w wr : World) (p : Nat) (ao : Option Addr) (cap : Nat) (bs : List UInt8) (s : RS) (la : Option Addr) (lc gl k : Nat) (vs : List Value) : Prop where
  r : XAt wr p ao cap bs s
  l : KL w wr la lc gl k vs
  fr : Fr (· = p) w wr
  pl : p < w.heap.size
  rl : ∀ b off, ao = some ⟨b, off, none⟩ → 0 < bs.length → b < w.heap.size

theorem XL.read {w wr w' : World} {p : Nat} {ao : Option Addr} {cap : Nat} {bs : List UInt8} {s s' : RS} {la : Option Addr} {lc gl k : Nat} {vs : List Value} (h : XL w wr p ao cap bs s la lc gl k vs) (hk : 0 < k) (hr : XAt w' p ao cap bs s') (hf : Fr (· = p) wr w') : XL w w' p ao cap bs s' la lc gl k vs :=
  ⟨hr, h.l.go hk hf (fun q hq => by have := h.pl; omega), h.fr.trans hf (fun _ _ t => t), h.pl, h.rl⟩

theorem XL.keep {w wr w' : World} {p : Nat} {ao : Option Addr} {cap : Nat} {bs : List UInt8} {s : RS} {la : Option Addr} {lc gl k : Nat} {vs : List Value} (h : XL w wr p ao cap bs s la lc gl k vs) (hk : 0 < k) (hf : Fr (fun _ => False) wr w') : XL w w' p ao cap bs s la lc gl k vs :=
  ⟨h.r.frame2 hf (fun t => t) (fun _ _ _ _ t => t), h.l.go hk hf (fun _ hq => hq.elim), h.fr.trans hf (fun _ _ t => t.elim), h.pl, h.rl⟩

theorem XL.app {w wr w2 : World} {p : Nat} {ao : Option Addr} {cap : Nat} {bs : List UInt8} {s : RS} {la la' : Option Addr} {lc gl lc' gl' k : Nat} {vs news : List Value} (h : XL w wr p ao cap bs s la lc gl k vs) (hr : KRow w2 la' lc' gl' k (vs ++ news)) (hg : Grew wr gl lc w2 gl' lc') : XL w w2 p ao cap bs s la' lc' gl' k (vs ++ news) := by
  have h1 := h.fr.size
  have h2 := h.pl
  have hF : Fr (fun q => q = gl ∧ 0 < lc) wr w2 := by
    rcases hg with ⟨_, _, hf⟩ | ⟨_, _, hf⟩
    · exact hf
    · exact hf.mono (fun _ _ t => t.elim)
  have hn : 0 < lc' → w.heap.size ≤ gl' := by
    intro hc
    rcases hg with ⟨e1, e2, _⟩ | ⟨e1, _, _⟩
    · rw [e1]; exact h.l.new (by omega)
    · omega
  refine ⟨h.r.frame2 hF (fun t => by have := h.l.new t.2; omega) (fun b off e h0 t => by have := h.l.new t.2; have := h.rl b off e h0; omega), ⟨hr, hn⟩, ?_, h2, h.rl⟩
  exact h.fr.trans hF (fun q hq t => by have := h.l.new t.2; omega)

set_option maxHeartbeats 1000000 in
theorem readTokens_any {w : World} {p : Nat} {ao : Option Addr} {cap : Nat} {bs : List UInt8} {s : RS} (h : XAt w p ao cap bs s) :
    Calls Try.prog 59 #[.pointer (some ⟨p, 0, none⟩)] w fun e w' => ∃ la lc gl, e = .returned (.slice la (rdM bs 1000 tokenK s).1.length lc) ∧ XL w w' p ao cap bs (rdM bs 1000 tokenK s).2 la lc gl 1 (rdM bs 1000 tokenK s).1.flatten := by
  obtain ⟨info, hi, hzz⟩ := Option.map_eq_some_iff.1 Token_info
  simp only [Prod.mk.injEq] at hzz
  have HI := hide (And.intro hi hzz)
  have R0 := hide (xCount h 1000)
  have HPL := hide (And.intro h.lt (fun (b off : Nat) (e : ao = some ⟨b, off, none⟩) (h0 : 0 < bs.length) => h.rowlt e h0))
  clear hi hzz h
  obtain ⟨C, HC⟩ : ∃ C, Hid (cntR bs 1000 s = C) := ⟨_, rfl⟩
  have hC : stepR s (.int .i64 0) (oCount bs s.a 1000) = C := unhide HC
  rw [hC] at R0
  clear hC
  have hc1 := (cnt_spec bs 1000 s).1
  have hcm := (cnt_spec bs 1000 s).2
  obtain ⟨c, Hc⟩ : ∃ c, Hid (cnt bs 1000 s = c) := ⟨_, rfl⟩
  rw [unhide HC, unhide Hc] at hc1
  rw [unhide Hc] at hcm
  have HM : Hid (rdM bs 1000 tokenK s = rdN bs tokenK c C.2) := hide (by unfold rdM; rw [unhide HC, unhide Hc])
  rw [unhide HM]
  unfold XDone at R0
  rw [hc1] at R0
  clear hc1
  go_enter Try.func59, Try.ntmps59
  go_wp2_with fail
  refine (unhide R0).mono ?_
  rintro e w1 ⟨rfl, hR, hF⟩
  have HL : Hid (XL w w1 p ao cap bs C.2 none 0 0 1 []) := hide ⟨hR, KL.none _ _ _ _, hF, (unhide HPL).1, (unhide HPL).2⟩
  clear hR hF R0
  go_wp2
  go_loopw [4, 5, 6] (fun lv iv _ wr => ∃ i : Nat, i ≤ c ∧ iv = .int .i64 i ∧ ∃ la lc gl, lv = .slice la i lc ∧ Hid (XL w wr p ao cap bs (rdN bs tokenK i C.2).2 la lc gl 1 (rdN bs tokenK i C.2).1.flatten)) (fun _ iv _ _ => c - (intOf iv).toNat)
  case atStart => exact ⟨0, Nat.zero_le _, rfl, none, 0, 0, rfl, unhide HL⟩
  case round =>
    clear HL
    obtain ⟨i, hi', rfl, la, lc, gl, rfl, HS⟩ := hrel
    by_cases hlt : i < c
    · obtain ⟨s1, Hs1⟩ : ∃ s1, Hid (rdN bs tokenK i C.2 = s1) := ⟨_, rfl⟩
      have hlen : s1.1.flatten.length = i * 1 := by
        rw [← unhide Hs1, flat_len _ 1, rdN_length]
        intro l hl
        obtain ⟨s', rfl⟩ := rdN_mem _ _ _ _ l hl
        rw [rdL_length]
        rfl
      rw [unhide Hs1] at HS
      have HNX : Hid ((rdN bs tokenK (i + 1) C.2).1.flatten = s1.1.flatten ++ (rdL bs tokenK s1.2).1 ∧ (rdN bs tokenK (i + 1) C.2).2 = (rdL bs tokenK s1.2).2) := hide (by rw [rdN_snoc, unhide Hs1]; simp)
      have HLE := hide hlen
      have R1 := hide (xFixed (unhide HS).r 8)
      obtain ⟨r0, Hr0⟩ : ∃ r, Hid ((Kd.fix 8).rd bs s1.2 = r) := ⟨_, rfl⟩
      have hr0 : stepR s1.2 (.string ⟨#[]⟩) (oFixed bs s1.2.a 8) = r0 := unhide Hr0
      rw [hr0] at R1
      obtain ⟨n0, hv0⟩ := rd_fix bs 8 s1.2
      rw [unhide Hr0] at hv0
      have HNX2 : Hid ((rdN bs tokenK (i + 1) C.2).1.flatten = s1.1.flatten ++ [.string n0] ∧ (rdN bs tokenK (i + 1) C.2).2 = r0.2) := hide (by
        have h1 := unhide HNX
        have e1 : (rdL bs tokenK s1.2).1 = [((Kd.fix 8).rd bs s1.2).1] := rfl
        have e2 : (rdL bs tokenK s1.2).2 = ((Kd.fix 8).rd bs s1.2).2 := rfl
        rw [e1, e2, unhide Hr0, hv0] at h1
        exact h1)
      unfold XDone at R1
      rw [hv0] at R1
      clear hlen hr0 hv0 HNX
      go_wp2_with fail
      refine (unhide R1).mono ?_
      rintro e w2 ⟨rfl, hR, hF⟩
      have HS2 := hide (((unhide HS).read (by omega) hR hF).keep (by omega) ((Fr.refl (fun _ => False) w2).alloc (.cells #[.string n0] 9)))
      have HSR := hide (src_one (P := Try.prog) w2 [.string n0] 39 9 1 Try.underlying39 rfl (fun u hu => by simp only [List.mem_cons, List.not_mem_nil, or_false] at hu; subst hu; rfl) (W := w2.alloc (.cells #[.string n0] 9)) (fun j => by rw [World.cell?_alloc_new]; simp))
      clear hR hF R1
      go_wp2_with (at_builtin; refine wpList_append_krow _ rfl (.tmp 16) (.tmp 18) 39 39 rfl 9 info _ 1 (by omega) Try.underlying39 (unhide HI).1 (unhide HI).2.1 rfl (unhide HI).2.2.1 rfl (unhide HS2).l.row (unhide HLE) _ _ 1 rfl (unhide HSR) (by rw [(unhide HI).2.2.2]; omega) (by omega) ?_)
      intro la' lc' w3 gl' hK hG
      have HL3 : Hid (XL w w3 p ao cap bs (rdN bs tokenK (i + 1) C.2).2 la' lc' gl' 1 (rdN bs tokenK (i + 1) C.2).1.flatten) := hide (by
        rw [(unhide HNX2).1, (unhide HNX2).2]
        exact (unhide HS2).app hK hG)
      clear hK hG HS2 HSR
      go_wp2
      exact ⟨⟨i + 1, by omega, by go_num, la', lc', gl', rfl, unhide HL3⟩, by simp [intOf]; omega⟩
    · obtain rfl : i = c := by omega
      have HN : Hid ((rdN bs tokenK i C.2).1.length = i) := hide (rdN_length ..)
      go_wp2
      go_ret
      exact ⟨la, lc, ⟨gl, by rw [unhide HN]; rfl, unhide HS⟩⟩

end Go.Proofs.Ytkjoojamkbpfcaa
