import Derived.Test.YthgkifkcckandaaJNF
/- A token's travel days: Days. -/
namespace Go.Proofs.Ythgkifkcckandaa
open Go.RowKit

def daysN : Nat → List Tp → List (List Tp)
  | 0, _ => []
  | _ + 1, [] => []
  | n + 1, x :: r => (x :: r).take (dayLn (x :: r)) :: daysN n ((x :: r).drop (dayLn (x :: r)))
def daysL (l : List Tp) : List (List Tp) := daysN l.length l

theorem dayLn_pos {l : List Tp} (h : RgtOk l) (h0 : 0 < l.length) : 0 < dayLn l := by
  cases l with
  | nil => simp at h0
  | cons x r =>
    have hx := tap_time (h.1 x (List.mem_cons_self ..))
    have hd := dEnd_eq hx
    show 0 < ((x :: r).takeWhile (fun t => !isLate (dEnd x) t)).length
    rw [List.takeWhile_cons]
    have : (!isLate (dEnd x) x) = true := by simp [isLate, hd]; omega
    rw [this]
    simp

theorem daysN_nil : ∀ n : Nat, daysN n [] = []
  | 0 => rfl
  | _ + 1 => rfl

theorem daysN_any : ∀ (n k : Nat) (m : List Tp), RgtOk m → m.length ≤ n → m.length ≤ k → daysN n m = daysN k m
  | _, k, [], _, _, _ => by rw [daysN_nil, daysN_nil]
  | 0, _, x :: r, _, hn, _ => absurd hn (by simp)
  | _ + 1, 0, x :: r, _, _, hk => absurd hk (by simp)
  | n + 1, k + 1, x :: r, h, hn, hk => by
    have hp := dayLn_pos h (by simp)
    have hd : (List.drop (dayLn (x :: r)) (x :: r)).length = (x :: r).length - dayLn (x :: r) := List.length_drop ..
    have hs := h.sub (List.drop_sublist (dayLn (x :: r)) (x :: r))
    have hl : (x :: r).length = r.length + 1 := rfl
    show _ :: daysN n _ = _ :: daysN k _
    rw [daysN_any n k _ hs (by omega) (by omega)]

theorem daysN_fuel (n : Nat) (m : List Tp) (h : RgtOk m) (hn : m.length ≤ n) : daysN n m = daysN m.length m := daysN_any n m.length m h hn (Nat.le_refl _)

theorem daysN_step {m : List Tp} (h : RgtOk m) (h0 : 0 < m.length) {n : Nat} (hn : m.length ≤ n) : daysN n m = m.take (dayLn m) :: daysN (m.drop (dayLn m)).length (m.drop (dayLn m)) := by
  cases m with
  | nil => simp at h0
  | cons x r =>
    have hp := dayLn_pos h h0
    have hd : (List.drop (dayLn (x :: r)) (x :: r)).length = (x :: r).length - dayLn (x :: r) := List.length_drop ..
    have hs := h.sub (List.drop_sublist (dayLn (x :: r)) (x :: r))
    have hl : (x :: r).length = r.length + 1 := rfl
    rw [daysN_fuel n _ h hn]
    show _ :: daysN r.length _ = _
    rw [daysN_fuel r.length _ hs (by omega)]

/-- A row of taps of one's own. -/
structure DR where
  ao : Option Addr
  cap : Nat
  g : Nat
  tp : List Tp
def DR.val (d : DR) : Value := .slice d.ao d.tp.length d.cap

/-- Rows of taps in new memory. -/
structure DL (M : Nat) (w : World) (ao : Option Addr) (cap g : Nat) (ds : List DR) : Prop where
  row : KRow w ao cap g 1 (ds.map DR.val)
  new : 0 < cap → M ≤ g
  els : ∀ d ∈ ds, KRow w d.ao d.cap d.g 6 (tpV d.tp) ∧ (0 < d.cap → M ≤ d.g ∧ (0 < cap → d.g ≠ g))
  apart : ds.Pairwise (fun a b : DR => 0 < a.cap → 0 < b.cap → a.g ≠ b.g)

theorem DL.nil (M : Nat) (w : World) : DL M w none 0 0 [] := ⟨KRow.nil _ _ _, fun h => absurd h (by omega), fun d hd => absurd hd (by simp), List.Pairwise.nil⟩

theorem DL.app {M : Nat} {w w2 w3 : World} {ao ao' : Option Addr} {cap g cap' g' : Nat} {ds : List DR} (h : DL M w ao cap g ds) (hM : M ≤ w.heap.size) (hf : Fr (fun _ => False) w w2) (d : DR) (hd : KRow w2 d.ao d.cap d.g 6 (tpV d.tp)) (hg : 0 < d.cap → w.heap.size ≤ d.g)
    (hr : KRow w3 ao' cap' g' 1 (ds.map DR.val ++ [d.val])) (hgr : Grew w2 g cap w3 g' cap') : DL M w3 ao' cap' g' (ds ++ [d]) := by
  have hfs : Fr (fun k => k = g ∧ 0 < cap) w2 w3 := by
    rcases hgr with ⟨_, _, f⟩ | ⟨_, _, f⟩
    · exact f
    · exact f.mono (fun _ _ t => t.elim)
  have hn : 0 < cap' → (g' = g ∧ 0 < cap) ∨ w2.heap.size ≤ g' := fun hc => by
    rcases hgr with ⟨e, e2, _⟩ | ⟨e, _, _⟩
    · exact .inl ⟨e, by omega⟩
    · exact .inr e
  have hs := hf.size
  have hglt : 0 < cap → g < w.heap.size := fun hc => h.row.lt (by omega) hc
  have hold : ∀ e ∈ ds, KRow w3 e.ao e.cap e.g 6 (tpV e.tp) ∧ (0 < e.cap → e.g < w.heap.size) := fun e he => by
    have k := (h.els e he).1
    refine ⟨?_, fun hc => k.lt (by omega) hc⟩
    exact (k.keep (by omega) hf).stay (fun hc => hfs.block e.g ((k.keep (by omega) hf).lt (by omega) hc) (fun t => ((h.els e he).2 hc).2 t.2 t.1))
  have hdl : 0 < d.cap → d.g < w2.heap.size := fun hc => hd.lt (by omega) hc
  refine ⟨by rw [List.map_append]; exact hr, fun hc => ?_, fun e he => ?_, List.pairwise_append.2 ⟨h.apart, List.pairwise_singleton _ _, fun a ha b hb h1 h2 => ?_⟩⟩
  · rcases hn hc with ⟨e, e2⟩ | e
    · rw [e]; exact h.new e2
    · omega
  · rcases List.mem_append.1 he with he | he
    · refine ⟨(hold e he).1, fun hc => ⟨((h.els e he).2 hc).1, fun hc' => ?_⟩⟩
      rcases hn hc' with ⟨q, q2⟩ | q
      · rw [q]; exact ((h.els e he).2 hc).2 q2
      · have := (hold e he).2 hc; omega
    · rw [List.mem_singleton] at he
      subst he
      refine ⟨hd.stay (fun hc => hfs.block e.g (hdl hc) (fun t => by have := hg hc; have := hglt t.2; omega)), fun hc => ⟨Nat.le_trans hM (hg hc), fun hc' => ?_⟩⟩
      rcases hn hc' with ⟨q, q2⟩ | q
      · have := hg hc; have := hglt q2; omega
      · have := hdl hc; omega
  · rw [List.mem_singleton] at hb
    subst hb
    have := (hold a ha).2 h1
    have := hg h2
    omega

theorem tInfo : (Try.prog.info? 39).map (fun i => (i.zero, i.size, i.bytes)) = some (some (.agg #[.int .i64 0, .int .i64 0, .string ⟨#[]⟩, .int .i64 0, .int .i64 0, .int .i64 0]), 6, 56) := by kernel_rfl
theorem tsInfo : (Try.prog.info? 28).map (fun i => (i.zero, i.size, i.bytes)) = some (some (.slice none 0 0), 1, 24) := by kernel_rfl

theorem info_of3 {T : TypeId} {z : Value} {k b : Nat} (h : (Try.prog.info? T).map (fun i => (i.zero, i.size, i.bytes)) = some (some z, k, b)) : ∃ i, Try.prog.info? T = some i ∧ i.zero = some z ∧ i.size = k ∧ i.bytes = b := by
  cases hi : Try.prog.info? T with
  | none => rw [hi] at h; simp at h
  | some i => rw [hi] at h; simp at h; exact ⟨i, rfl, h.1, h.2.1, h.2.2⟩

theorem CAt.srcJ {w : World} {ao : Option Addr} {vs : List Value} (h : CAt w ao vs) (tx e : TypeId) (k n cap : Nat) (hk : 0 < k) (ht : Try.prog.underlying tx = some (.slice e)) (hn : vs.length = n * k) (h1 : ∀ u ∈ vs, u.oneCell' = true) : Src Try.prog k tx (.slice ao n cap) n vs w := by
  by_cases hm : 0 < vs.length
  · obtain ⟨b, off, rfl, hc⟩ := h hm
    refine Src.ofSlice w ht ⟨b, off, none⟩ n cap vs hn (fun j u hj => ?_) h1
    have hjl := (List.getElem?_eq_some_iff.1 hj).1
    rw [Addr.add_lit, hc j hjl, ← hj, List.getElem?_eq_getElem hjl]
  · have e0 : vs = [] := List.eq_nil_of_length_eq_zero (by omega)
    subst e0
    obtain rfl : n = 0 := by
      rcases Nat.eq_zero_or_pos n with h0 | h0
      · exact h0
      · have := Nat.mul_pos h0 hk; simp at hn; omega
    cases ao with
    | none => exact Src.ofNil w ht cap
    | some b => exact Src.ofSlice w ht b 0 cap [] (by simp) (fun j u hj => by simp at hj) (fun u hu => by cases hu)

theorem CAt.rear {w : World} {ao : Option Addr} {l : List Tp} (h : CAt w ao (tpV l)) (n : Nat) : CAt w (ao.map (fun x => x.add (n * 6))) (tpV (l.drop n)) := by
  intro h0
  have h1 := tpV_length l
  have h2 := tpV_length (l.drop n)
  rw [List.length_drop] at h2
  have hn : n < l.length := by
    rcases Nat.lt_or_ge n l.length with q | q
    · exact q
    · rw [show l.length - n = 0 by omega] at h2; omega
  have h3 : (l.length - n) * 6 = l.length * 6 - n * 6 := by omega
  obtain ⟨b, off, rfl, hc⟩ := h (by omega)
  refine ⟨b, off + n * 6, by simp [Addr.add_lit], fun j hj => ?_⟩
  rw [Nat.add_assoc, hc (n * 6 + j) (by omega)]
  have e2 : tpV l = tpV (l.take n) ++ tpV (l.drop n) := by unfold tpV; rw [← List.flatMap_append, List.take_append_drop]
  have h4 := tpV_length (l.take n)
  rw [List.length_take, Nat.min_eq_left (by omega)] at h4
  congr 1
  rw [List.getElem_of_eq e2, List.getElem_append_right (by omega)]
  congr 1
  omega

theorem CAt.front {w : World} {ao : Option Addr} {l : List Tp} (h : CAt w ao (tpV l)) (n : Nat) : CAt w ao (tpV (l.take n)) := by
  intro h0
  have h1 := tpV_length l
  have h2 := tpV_length (l.take n)
  rw [List.length_take] at h2
  obtain ⟨b, off, e, hc⟩ := h (by omega)
  refine ⟨b, off, e, fun j hj => ?_⟩
  rw [hc j (by omega)]
  have e2 : tpV l = tpV (l.take n) ++ tpV (l.drop n) := by unfold tpV; rw [← List.flatMap_append, List.take_append_drop]
  congr 1
  rw [List.getElem_of_eq e2, List.getElem_append_left hj]

set_option maxHeartbeats 1000000 in
theorem days_any (w : World) (ao0 : Option Addr) (cap0 : Nat) (l : List Tp) (h : CAt w ao0 (tpV l)) (hl : l.length ≤ 4398046511104) (hcap : l.length ≤ cap0) :
    Calls Try.prog 13 #[.slice ao0 l.length cap0] w fun e w' => ∃ ao cap g ds, e = .returned (.tuple #[.slice ao ds.length cap, .int .i64 (rightT l)]) ∧ DL w.heap.size w' ao cap g ds ∧ ds.map DR.tp = (if rightT l = 0 then daysL l else []) ∧ Fr (fun _ => False) w w' := by
  have RR := hide (jright_any w ao0 cap0 l h hl)
  have H := hide h
  clear h
  go_enter Try.func13, Try.ntmps13
  go_wp2_with fail
  refine (unhide RR).mono ?_
  rintro e w1 ⟨rfl, hF1⟩
  have HF1 := hide hF1
  clear hF1 RR
  by_cases hr : rightT l = 0
  · have HR := hide hr
    rw [hr]
    obtain ⟨hl2, hok⟩ := (rightT_zero l).1 hr
    have HOK := hide hok
    clear hok hr
    go_wp2_with fail
    go_loopw [0, 5] (fun tv dv wr => ∃ (rem : List Tp) (ds : List DR) (ak : Option Addr) (ck : Nat) (ao : Option Addr) (cap g : Nat), rem.length ≤ ck ∧ tv = .slice ak rem.length ck ∧ dv = .slice ao ds.length cap ∧ Hid (RgtOk rem ∧ rem.length ≤ 2000 ∧ ds.length + rem.length ≤ l.length ∧ CAt w ak (tpV rem) ∧ DL w.heap.size wr ao cap g ds ∧ ds.map DR.tp ++ daysN rem.length rem = daysL l ∧ Fr (fun _ => False) w wr)) (fun tv _ _ => match tv with | .slice _ n _ => n | _ => 0)
    case atStart => exact ⟨l, [], ao0, cap0, none, 0, 0, hcap, rfl, rfl, hide ⟨unhide HOK, hl2, by simp, unhide H, DL.nil _ _, by simp [daysL], unhide HF1⟩⟩
    case round =>
      obtain ⟨rem, ds, ak, ck, ao, cap, g, hck, rfl, rfl, HI⟩ := hrel
      by_cases h0 : 0 < rem.length
      · obtain ⟨hok, h2000, hcnt, hC, hD, hE, hF⟩ := unhide HI
        have RD := hide (dayLength_any wr ak ck rem (hC.keep hF) (by omega) h0)
        have hn0 := dayLn_pos hok h0
        have hnl := dayLn_le rem
        have HST := hide (daysN_step hok h0 (Nat.le_refl _))
        obtain ⟨n, hn⟩ : ∃ n, dayLn rem = n := ⟨_, rfl⟩
        have HN := hide hn
        rw [hn] at RD hn0 hnl
        have h0b : decide ((0 : Int) < (rem.length : Int)) = true := by simp; omega
        obtain ⟨m, hm⟩ : ∃ m, rem.length = m := ⟨_, rfl⟩
        have HMM := hide hm
        rw [hm] at RD hnl hck h0b ⊢
        have HS0 := hide (And.intro hok (And.intro h2000 (And.intro hcnt (And.intro hC (And.intro hD (And.intro hE hF))))))
        clear hn hm hok h2000 hcnt hC hD hE hF HI h0
        go_wp2_with fail
        refine (unhide RD).mono ?_
        rintro e w2 ⟨rfl, hF2⟩
        have HF2 := hide hF2
        clear hF2 RD
        obtain ⟨info, hi, hz, hs, hy⟩ := info_of3 tInfo
        obtain ⟨infs, hi2, hz2, hs2, hy2⟩ := info_of3 tsInfo
        have HI1 := hide (And.intro hi (And.intro hz (And.intro hs hy)))
        have HI2 := hide (And.intro hi2 (And.intro hz2 (And.intro hs2 hy2)))
        have HSR : Hid (Src Try.prog 6 28 (.slice ak n ck) n (tpV (rem.take n)) w2) := hide (by
          obtain ⟨_, _, _, hC, _, _, hF⟩ := unhide HS0
          exact CAt.srcJ (((hC.keep hF).keep (unhide HF2)).front n) 28 39 6 n ck (by omega) Try.underlying28 (by rw [tpV_length, List.length_take, unhide HMM, Nat.min_eq_left hnl]) (tpV_one _))
        have hm2 : m ≤ 2000 := by have := (unhide HS0).2.1; rw [unhide HMM] at this; exact this
        have hnI : (n : Int) ≤ (m : Int) := by omega
        have hnC : (n : Int) ≤ (ck : Int) := by omega
        have hds : ds.length ≤ l.length := by have := (unhide HS0).2.2.1; omega
        clear hi hz hs hy hi2 hz2 hs2 hy2
        go_wp2_with (at_builtin; refine wpList_append_krow _ rfl (.const (.slice none 0 0)) (.tmp 20) 28 28 rfl 39 info _ 6 (by omega) Try.underlying28 (unhide HI1).1 (unhide HI1).2.1 rfl (unhide HI1).2.2.1 rfl (KRow.nil w2 0 6) rfl _ _ n rfl (unhide HSR) (by rw [(unhide HI1).2.2.2]; omega) (by omega) ?_)
        intro ao1 cap1 w3 g1 hrow hgr
        have hF3 : Fr (fun _ => False) w2 w3 := by
          rcases hgr with ⟨_, _, hF⟩ | ⟨_, _, hF⟩
          · exact hF.mono (fun _ _ t => by omega)
          · exact hF
        have hg1 : 0 < cap1 → w2.heap.size ≤ g1 := fun hc => by
          rcases hgr with ⟨_, e2, _⟩ | ⟨e1, _, _⟩
          · omega
          · exact e1
        have HR1 : Hid (KRow w3 ao1 cap1 g1 6 (tpV (rem.take n)) ∧ (0 < cap1 → w2.heap.size ≤ g1) ∧ Fr (fun _ => False) w2 w3) := hide ⟨by simpa using hrow, hg1, hF3⟩
        have HSR2 : Hid (Src Try.prog 1 47 (.slice (some ⟨w3.heap.size, 0, none⟩) 1 1) 1 [.slice ao1 n cap1] (w3.alloc (.cells #[.slice ao1 n cap1] 28))) := hide (src_one w3 [.slice ao1 n cap1] 47 28 1 Try.underlying47 rfl (fun u hu => by rw [List.mem_singleton] at hu; subst hu; rfl) (fun j => ((Bx.new w3 #[.slice ao1 n cap1] 28).cell j).trans (by simp)))
        have HDW : Hid (KRow (w3.alloc (.cells #[.slice ao1 n cap1] 28)) ao cap g 1 (ds.map DR.val)) := hide (by
          obtain ⟨_, _, _, _, hD, _, hF⟩ := unhide HS0
          exact hD.row.keep (by omega) (((unhide HF2).trans hF3 (fun _ _ t => t)).alloc _))
        clear hrow hgr hF3 hg1 HSR
        go_wp2_with (at_builtin; refine wpList_append_krow _ rfl (.tmp 17) (.tmp 22) 47 47 rfl 28 infs _ 1 (by omega) Try.underlying47 (unhide HI2).1 (unhide HI2).2.1 rfl (unhide HI2).2.2.1 rfl (unhide HDW) (by simp) _ [.slice ao1 n cap1] 1 rfl (unhide HSR2) (by rw [(unhide HI2).2.2.2]; omega) (by omega) ?_)
        intro ao2 cap2 w4 g2 hrow2 hgr2
        have HF2W := HF2
        have HGR := hide hgr2
        have HRW := hide hrow2
        clear hgr2 hrow2 HSR2 HDW HI1 HI2
        go_wp2
        obtain ⟨hok, h2000, hcnt, hC, hD, hE, hF⟩ := unhide HS0
        obtain ⟨hr1, hg1, hF3⟩ := unhide HR1
        have hmm := unhide HMM
        have hnn := unhide HN
        have htl : (rem.take n).length = n := by rw [List.length_take, hmm, Nat.min_eq_left hnl]
        have hdl : (rem.drop n).length = m - n := by rw [List.length_drop, hmm]
        have hfr : Fr (fun _ => False) wr (w3.alloc (.cells #[.slice ao1 n cap1] 28)) := ((unhide HF2W).trans hF3 (fun _ _ t => t)).alloc _
        have hfin : Fr (fun _ => False) w w4 := by
          have h1 : Fr (fun _ => False) w (w3.alloc (.cells #[.slice ao1 n cap1] 28)) := hF.trans hfr (fun _ _ t => t)
          rcases unhide HGR with ⟨_, _, f⟩ | ⟨_, _, f⟩
          · exact h1.trans f (fun i hi t => by have := hD.new t.2; omega)
          · exact h1.trans f (fun _ _ t => t)
        refine ⟨⟨rem.drop n, ds ++ [⟨ao1, cap1, g1, rem.take n⟩], _, ck - n, ao2, cap2, g2, by rw [hdl]; omega, by rw [hdl], by simp, hide ⟨hok.sub (List.drop_sublist ..), by rw [hdl]; omega, by rw [hdl, List.length_append]; simp only [List.length_cons, List.length_nil]; omega, ?_, ?_, ?_, hfin⟩⟩, by simp; omega⟩
        · split
          · rename_i e
            have : rem.drop n = [] := List.eq_nil_of_length_eq_zero (by omega)
            rw [this]
            exact CAt.nil _ _
          · exact hC.rear n
        · refine hD.app hF.size hfr ⟨ao1, cap1, g1, rem.take n⟩ (hr1.keep (by omega) ((Fr.refl _ _).alloc _)) (fun hc => Nat.le_trans (unhide HF2W).size (hg1 hc)) ?_ (unhide HGR)
          unfold DR.val
          simp only [htl]
          exact unhide HRW
        · rw [List.map_append, List.append_assoc, ← hE]
          have := unhide HST
          rw [hnn, hmm] at this
          rw [hmm, this]
          rfl
      · obtain rfl : rem = [] := List.eq_nil_of_length_eq_zero (by omega)
        obtain ⟨_, _, _, _, hD, hE, hF⟩ := unhide HI
        have HD := hide hD
        have HE : Hid (ds.map DR.tp = daysL l) := hide (by rw [← hE]; simp [daysN])
        have HF := hide hF
        clear hD hE hF HI
        simp only [List.length_nil]
        go_wp2
        go_ret2
        exact ⟨ao, cap, g, ds, by rfl, unhide HD, unhide HE, unhide HF⟩
  · have hb2 : (rightT l == 0) = false := by simp [hr]
    have hb3 : (rightT l != 0) = true := by simp [hr]
    have HX : Hid (∃ ao cap g ds, Ending.returned (.tuple #[.slice none 0 0, .int .i64 (rightT l)]) = .returned (.tuple #[.slice ao ds.length cap, .int .i64 (rightT l)]) ∧ DL w.heap.size w1 ao cap g ds ∧ ds.map DR.tp = (if rightT l = 0 then daysL l else []) ∧ Fr (fun _ => False) w w1) := hide ⟨none, 0, 0, [], rfl, DL.nil _ _, by rw [if_neg hr]; rfl, unhide HF1⟩
    clear H HF1
    go_wp2
    go_ret2
    first | exact unhide HX | (have := unhide HX; simpa [hr] using this)

end Go.Proofs.Ythgkifkcckandaa

