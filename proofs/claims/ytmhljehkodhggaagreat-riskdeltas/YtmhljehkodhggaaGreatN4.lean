import Derived.Test.YtmhljehkodhggaaGreatK2
import Derived.Deep.RegionLaw
/- Lists of records, read and written. -/
namespace Go.Proofs.YtmhljehkodhggaaGreat
open Go.RowKit

/-- An outage. -/
structure Otg where
  st : Int
  fr : Int
  to : Int
def otC (q : Otg) : List Value := [.int .i64 q.st, .int .i64 q.fr, .int .i64 q.to]
def otV (l : List Otg) : List Value := l.flatMap otC
def tkC (q : ByteArray) : List Value := [.string q]
def tkV (l : List ByteArray) : List Value := l.flatMap tkC
theorem otV_length (l : List Otg) : (otV l).length = l.length * 3 := flat_length otC 3 (fun _ => rfl) l
theorem tkV_length (l : List ByteArray) : (tkV l).length = l.length * 1 := flat_length tkC 1 (fun _ => rfl) l

/-- The pieces of a token. -/
abbrev tokenK : List Kd := [.fix 8]

theorem cat_cell {w : World} {ao : Option Addr} {α : Type} (f : α → List Value) (k : Nat) (hf : ∀ x, (f x).length = k) {l : List α} (h : CAt w ao (l.flatMap f)) {i : Nat} (hi : i < l.length) (hk : 0 < k) :
    ∃ b off, ao = some ⟨b, off, none⟩ ∧ ∀ c, c < k → w.cell? ⟨b, off + i * k + c, none⟩ = (f l[i])[c]? := by
  have hL := flat_length f k hf l
  have hlt : ∀ c, c < k → i * k + c < (l.flatMap f).length := fun c hc => by
    rw [hL]
    have : (i + 1) * k ≤ l.length * k := Nat.mul_le_mul_right k hi
    rw [Nat.succ_mul] at this
    omega
  obtain ⟨b, off, e, hc⟩ := h (by have := hlt 0 hk; omega)
  refine ⟨b, off, e, fun c hck => ?_⟩
  rw [Nat.add_assoc, hc _ (hlt c hck), ← flat_get f k hf l i hi c hck, List.getElem?_eq_getElem (hlt c hck)]

theorem tokenE_r {w : World} {p g b : Nat} {bs : List UInt8} {s : RS} {t : TypeId} (x0 : Value) (h : RB w p g b bs s #[x0] t) :
    Calls Tryz.prog 76 #[walkR p, .pointer (some ⟨b, 0, none⟩)] w (RDone p g b bs (rdL bs tokenK s).2 (rdL bs tokenK s).1.toArray t w) := by
  refine (token_r h 0 (by simp)).mono ?_
  rintro e w' ⟨h1, h2, h3⟩
  exact ⟨h1, by simpa [tokenK, rdL] using h2, h3⟩

theorem tokenE_w {w : World} {p g b : Nat} {st : Option (List UInt8)} {t : TypeId} (x0 : ByteArray) (h : WB w p g b st #[.string x0] t) (L : Nat) (hL : Most st L) (hfit : L + 66200 ≤ 140737488355328) :
    Calls Tryz.prog 76 #[walkW p, .pointer (some ⟨b, 0, none⟩)] w (WDone p g (stepW st (wrL tokenK [.string x0])) w) := by
  refine (token_w h 0 x0 rfl L hL (by omega)).mono ?_
  rintro e w' ⟨h1, h2⟩
  exact ⟨h1, by simpa only [tokenK, wrL, stepW_nil] using h2⟩

theorem Token_shape (bs : List UInt8) (s : RS) : ∃ n0, (rdL bs tokenK s).1 = [.string n0] := by
  obtain ⟨n, h⟩ := rd_fix bs 8 s
  exact ⟨n, by simp [rdL, h]⟩

theorem Token_info : (Tryz.prog.info? 9).map (fun i => (i.zero, i.size, i.bytes)) = some (some (.string ⟨#[]⟩), 1, 16) := by kernel_rfl

set_option maxHeartbeats 1000000 in
theorem listToken_r {w : World} {p g b : Nat} {bs : List UInt8} {s : RS} {cs : Array Value} {t : TypeId} (h : RB w p g b bs s cs t) (o : Nat) (ho : cs[o]? = some (.slice none 0 0)) (most : Nat) (hm : most ≤ 65535) :
    Calls Tryz.prog 75 #[walkR p, .pointer (some ⟨b, o, none⟩), .int .i64 most, .func (Fn.func 76) #[] #[]] w fun e w' => e = .returned (.tuple #[]) ∧
      ∃ ao cap gl, RB w' p g b bs (rdM bs most tokenK s).2 (cs.setIfInBounds o (.slice ao (rdM bs most tokenK s).1.length cap)) t ∧ KRow w' ao cap gl 1 (rdM bs most tokenK s).1.flatten ∧ (0 < cap → w.heap.size ≤ gl) ∧ Fr (fun q => q = p ∨ q = b) w w' := by
  obtain ⟨info, hi, hzz⟩ := Option.map_eq_some_iff.1 Token_info
  simp only [Prod.mk.injEq] at hzz
  have HI := hide (And.intro hi hzz)
  have HMO := hide hm
  clear hi hzz hm
  have H := hide h
  have HO := hide ho
  have hp := h.plt
  have hb := h.x.lt
  clear h ho
  go_enter Tryz.func75, Tryz.ntmps75
  go_wp2_with fail
  have HX : Hid (Bx (w.alloc (.cells #[.pointer none, .pointer (some ⟨p, 0, none⟩)] 71)) w.heap.size #[.pointer none, .pointer (some ⟨p, 0, none⟩)] 71) := hide (Bx.new _ _ _)
  refine (rcount_any (RAt.alloc (unhide H).r _) (most : Int)).mono ?_
  obtain ⟨C, HC⟩ : ∃ C, Hid (cntR bs most s = C) := ⟨_, rfl⟩
  have hC : stepR s (.int .i64 0) (oCount bs s.a most) = C := unhide HC
  rw [hC]
  clear hC
  have hc1 := (cnt_spec bs most s).1
  have hcm := (cnt_spec bs most s).2
  obtain ⟨c, Hc⟩ : ∃ c, Hid (cnt bs most s = c) := ⟨_, rfl⟩
  rw [unhide HC, unhide Hc] at hc1
  rw [unhide Hc] at hcm
  have hc65 : c ≤ 65535 := by have := unhide HMO; omega
  clear hcm
  rw [hc1]
  clear hc1
  rintro e w1 ⟨rfl, hR, hF⟩
  obtain ⟨N, HN⟩ : ∃ N, Hid (w.heap.size = N) := ⟨_, rfl⟩
  have hL0 : RL w w1 p g b N bs C.2 cs o t none 0 0 0 1 [] := by
    rw [unhide HN] at HX
    have e := unhide HN
    exact ⟨hR, by rw [set_self (unhide HO)]; exact (((unhide H).x).alloc _).frame hF (unhide H).np, KRow.nil _ _ _, fun h0 => absurd h0 (by omega), (unhide HX).frame hF (by omega), ((Fr.refl _ w).alloc _).trans hF (fun _ _ t => Or.inl t), hp, hb, by omega, fun h0 => RAt.rowlt (unhide H).r h0, (unhide H).np, (unhide H).ng⟩
  have HL := hide hL0
  rw [unhide HN] at ⊢
  clear hL0 hR hF HX
  go_wp2
  go_loopw [10, 37] (fun _ iv wr => ∃ i : Nat, i ≤ c ∧ iv = .int .i64 i ∧ ∃ ao cap gl, Hid (RL w wr p g b N bs (rdN bs tokenK i C.2).2 cs o t ao i cap gl 1 (rdN bs tokenK i C.2).1.flatten)) (fun _ iv _ => c - (intOf iv).toNat)
  case atStart => exact ⟨0, Nat.zero_le _, rfl, none, 0, 0, unhide HL⟩
  case round =>
    clear HL
    obtain ⟨i, hi', rfl, ao, cap, gl, HS⟩ := hrel
    by_cases hlt : i < c
    · have c0 : wr.cell? ⟨N, 0, none⟩ = some (.pointer none) := (unhide HS).wk.cell 0
      have c1 : wr.cell? ⟨N, 1, none⟩ = some (.pointer (some ⟨p, 0, none⟩)) := (unhide HS).wk.cell 1
      have hNl : N < wr.heap.size := (unhide HS).wk.lt
      obtain ⟨s1, Hs1⟩ : ∃ s1, Hid (rdN bs tokenK i C.2 = s1) := ⟨_, rfl⟩
      have hlen : s1.1.flatten.length = i * 1 := by
        rw [← unhide Hs1, flat_len _ 1, rdN_length]
        intro l hl
        obtain ⟨s', rfl⟩ := rdN_mem _ _ _ _ l hl
        rw [rdL_length]
        rfl
      rw [unhide Hs1] at HS
      have HNX : Hid ((rdN bs tokenK (i + 1) C.2).1.flatten = s1.1.flatten ++ (rdL bs tokenK s1.2).1 ∧ (rdN bs tokenK (i + 1) C.2).2 = (rdL bs tokenK s1.2).2) := hide (by rw [rdN_snoc, unhide Hs1]; simp)
      have HLE := hide hlen
      clear hlen
      go_wp2_with fail
      refine (tokenE_r _ ((unhide HS).elem #[.string ⟨#[]⟩] 9)).mono ?_
      obtain ⟨n0, hv⟩ := Token_shape bs s1.2
      rw [hv] at HNX ⊢
      generalize (rdL bs tokenK s1.2).2 = s2 at HNX ⊢
      clear hv
      rintro e w2 ⟨rfl, hB, hF⟩
      have HM := hide ((unhide HS).mid (by omega) hB hF)
      have HB := hide hB
      have hxb := hB.x.lt
      obtain ⟨xb, Hxb⟩ : ∃ xb, Hid (wr.heap.size = xb) := ⟨_, rfl⟩
      rw [unhide Hxb] at HB hxb ⊢
      have e0 : w2.cell? ⟨xb, 0, none⟩ = some (.string n0) := (unhide HB).x.cell 0
      have HCO : Hid ((cs.setIfInBounds o (.slice ao i cap))[o]? = some (.slice ao i cap)) := hide (by
        obtain ⟨q1, q2⟩ := Array.getElem?_eq_some_iff.1 (unhide HO)
        simp [q1])
      have cb : w2.cell? ⟨b, o, none⟩ = some (.slice ao i cap) := ((unhide HM).x.cell o).trans (unhide HCO)
      have HBX := hide ((unhide HM).x.drew.alloc (.cells #[.string n0] 9))
      have fb : w2.frozen? ⟨b, o, none⟩ = false := (unhide HM).x.frozen o
      have hbl : b < w2.heap.size := (unhide HM).x.lt
      have hne : ¬ (b = gl ∧ 0 < cap) := fun t => by have := (unhide HM).new t.2; have := (unhide HM).bl; omega
      have hsrc := src_one (P := Tryz.prog) w2.drew [.string n0] 22 9 1 Tryz.underlying22 rfl (fun u hu => by simp only [List.mem_cons, List.not_mem_nil, or_false] at hu; subst hu; rfl) (W := w2.drew.alloc (.cells #[.string n0] 9)) (fun j => by rw [World.cell?_alloc_new]; simp)
      have HSR := hide hsrc
      have HRW := hide ((unhide HM).row.stay (w' := w2.drew.alloc (.cells #[.string n0] 9)) (fun hc => Below.heap_alloc w2.drew _ _ ((unhide HM).row.lt (by omega) hc)))
      clear hB hF hsrc c0 c1
      go_wp2_with fail
      go_region_law (refine step_append_krow rfl (.tmp 45) (.tmp 47) 22 22 rfl 9 info _ 1 (by omega) Tryz.underlying22 (unhide HI).1 (unhide HI).2.1 rfl (unhide HI).2.2.1 (ao := ao) (cap := cap) (g := gl) (n := i) (vs := s1.1.flatten) rfl (unhide HRW) (unhide HLE) _ [.string n0] 1 rfl (unhide HSR) (by rw [(unhide HI).2.2.2]; omega) (by omega) ?_; intro ao' cap' w3 gl' hr hg; have hx3 := (unhide HBX).frame hg.fr hne; have k0 : w3.cell? ⟨b, o, none⟩ = some (.slice ao i cap) := (hx3.cell o).trans (unhide HCO); have k1 : w3.frozen? ⟨b, o, none⟩ = false := hx3.frozen o; clear hx3; have HR := hide (And.intro hr hg); clear hr hg)
      all_goals
        have HN2 := hide ((unhide HM).app (w1 := w2.drew.alloc (.cells #[.string n0] 9)) rfl (unhide HR).1 (unhide HR).2)
        clear HR HRW HSR k0 k1 cb fb
        go_wp2
        refine ⟨⟨i + 1, by omega, by go_num, ao', cap', gl', ?_⟩, by simp [intOf]; omega⟩
        show RL _ _ _ _ _ _ _ _ _ _ _ _ _ _ _ _ _
        rw [(unhide HNX).1, (unhide HNX).2]
        exact unhide HN2
    · obtain rfl : i = c := by omega
      go_wp2
      go_end0
      have e1 : rdM bs most tokenK s = rdN bs tokenK i C.2 := by unfold rdM; rw [unhide HC, unhide Hc]
      have e2 : (rdM bs most tokenK s).1.length = i := by rw [e1, rdN_length]
      rw [e2, e1]
      exact ⟨rfl, ao, cap, gl, (unhide HS).rb, (unhide HS).row, fun hc => ((unhide HS).new hc).1, (unhide HS).fr⟩

theorem Outage_shape (bs : List UInt8) (s : RS) : ∃ n0 n1 n2, (rdL bs outageK s).1 = [.int .i64 n0, .int .i64 n1, .int .i64 n2] := by
  have h : ∀ (n : Nat) (s : RS), ∃ m, ((Kd.num n).rd bs s).1 = .int .i64 m := fun n s => rd_num bs _ s (Or.inl ⟨_, rfl⟩)
  simp only [rdL, List.cons.injEq, and_true]
  obtain ⟨a, ha⟩ := h _ _
  obtain ⟨b, hb⟩ := h _ _
  obtain ⟨c, hc⟩ := h _ _
  exact ⟨a, b, c, ha, hb, hc⟩

theorem Station_shape (bs : List UInt8) (s : RS) : ∃ n0 n1 n2, (rdL bs stationK s).1 = [.int .i64 n0, .int .i64 n1, .int .i64 n2] := by
  have h : ∀ (n : Nat) (s : RS), ∃ m, ((Kd.num n).rd bs s).1 = .int .i64 m := fun n s => rd_num bs _ s (Or.inl ⟨_, rfl⟩)
  simp only [rdL, List.cons.injEq, and_true]
  obtain ⟨a, ha⟩ := h _ _
  obtain ⟨b, hb⟩ := h _ _
  obtain ⟨c, hc⟩ := h _ _
  exact ⟨a, b, c, ha, hb, hc⟩

theorem Span_shape (bs : List UInt8) (s : RS) : ∃ n0 n1 n2 n3 n4, (rdL bs spanK s).1 = [.int .i64 n0, .int .i64 n1, .int .i64 n2, .int .i64 n3, .int .i64 n4] := by
  have h : ∀ (n : Nat) (s : RS), ∃ m, ((Kd.num n).rd bs s).1 = .int .i64 m := fun n s => rd_num bs _ s (Or.inl ⟨_, rfl⟩)
  simp only [rdL, List.cons.injEq, and_true]
  obtain ⟨a, ha⟩ := h _ _
  obtain ⟨b, hb⟩ := h _ _
  obtain ⟨c, hc⟩ := h _ _
  obtain ⟨d, hd⟩ := h _ _
  obtain ⟨e, he⟩ := h _ _
  exact ⟨a, b, c, d, e, ha, hb, hc, hd, he⟩

theorem Band_shape (bs : List UInt8) (s : RS) : ∃ n0 n1, (rdL bs bandK s).1 = [.int .i64 n0, .int .i64 n1] := by
  have h : ∀ (n : Nat) (s : RS), ∃ m, ((Kd.num n).rd bs s).1 = .int .i64 m := fun n s => rd_num bs _ s (Or.inl ⟨_, rfl⟩)
  simp only [rdL, List.cons.injEq, and_true]
  obtain ⟨a, ha⟩ := h _ _
  obtain ⟨b, hb⟩ := h _ _
  exact ⟨a, b, ha, hb⟩

end Go.Proofs.YtmhljehkodhggaaGreat

