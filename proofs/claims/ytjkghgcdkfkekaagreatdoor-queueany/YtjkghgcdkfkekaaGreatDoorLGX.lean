import Derived.Test.YtjkghgcdkfkekaaGreatDoorYWC
/- Contracts: a log's Sync and Append. -/
namespace Go.Proofs.YtjkghgcdkfkekaaGreatDoor
open Go.RowKit

/-- A log that lives. -/
structure LogAt (w : World) (R : Nat → Nat) (l : Nat) (cs : Array Value) (p first H G : Nat) (rs : List Bs) (num : Nat) : Prop where
  st : StAt w R l 1 cs 100 p first H G rs
  size : cs.size = 10
  c0 : cs[0]? = some (.pointer (some ⟨p, 0, none⟩))
  c8 : cs[8]? = some (.int .i64 (num : Int))
  c9 : cs[9]? = some (.bool false)
  role : R l = 6

set_option maxHeartbeats 1000000 in
theorem lsync_any (w : World) (R : Nat → Nat) (l : Nat) (cs : Array Value) (p b : Nat) (d : Dk) (first H G : Nat) (rs : List Bs) (num : Nat) (hl : LogAt w R l cs p first H G rs num) (hk : Dsk w R p b d.many) (hD : DAt w R b d) (hup : d.down = false) (hcnt : d.cnt < 576460752303423488 ∧ d.wait.length < 2199023255552) :
    Calls Tryz.prog 35 #[.pointer (some ⟨l, 0, none⟩)] w fun e w' => e = .returned (if (d.act .sy).2 then errV 5 else .nilIface) ∧ ∃ R', DAt w' R' b (d.act .sy).1 ∧ UpR w R R' ∧ Fr (fun k => DS R k ∨ ((d.act .sy).2 = true ∧ k = l)) w w' := by
  have hb := hl.st.box
  have ll := hb.lt
  have k0 : w.cell? ⟨l, 0, none⟩ = some (.pointer (some ⟨p, 0, none⟩)) := (hb.cell 0).trans hl.c0
  have k9 : w.cell? ⟨l, 9, none⟩ = some (.bool false) := (hb.cell 9).trans hl.c9
  have hF1 : Fr (fun _ => False) w (w.alloc (.cells #[.nilIface] 34)) := (Fr.refl _ _).alloc _
  have hg1 := Bx.new w #[.nilIface] 34
  have SY := sync_any (w.alloc (.cells #[.nilIface] 34)) R p b d (hk.frame hF1 (fun _ _ t => t) (UpR.refl _ _)) (hD.frame hF1 (fun _ t => t.elim)) hup hcnt
  have HH := hide (And.intro hl (And.intro hk (And.intro hD (And.intro hup (And.intro hcnt (And.intro hb (And.intro hF1 (And.intro hg1 SY))))))))
  obtain ⟨DR, hDR⟩ : ∃ DR, DR = d.act .sy := ⟨_, rfl⟩
  obtain ⟨rv, hrv⟩ : ∃ rv : Value, rv = if DR.2 then errV 5 else .nilIface := ⟨_, rfl⟩
  rw [← hDR, ← hrv]
  have HDR := hide (And.intro hDR hrv)
  clear hDR hrv hl hk hD hup hcnt hb hF1 hg1 SY
  go_enter_defers Tryz.func35, Tryz.ntmps35
  go_wp2_with fail
  obtain ⟨hl, hk, hD, hup, hcnt, hb, hF1, hg1, SY⟩ := unhide HH
  obtain ⟨hDR, hrv⟩ := unhide HDR
  refine SY.mono ?_
  rintro e w2 ⟨rfl, R2, j1, j2, j3⟩
  rw [← hDR] at j1
  rw [← hDR, ← hrv]
  have hz : R w.heap.size = 0 := hD.zero _ (Nat.le_refl _)
  have hg2 := hg1.frame j3 (fun t => by have := t.1; omega)
  have hF2 : Fr (DS R) w w2 := (hF1.mono (fun _ _ t => t.elim)).trans j3 (fun _ _ t => t)
  have hb2 := hb.frame hF2 (fun t => by have := t.1; have := t.2; have := hl.role; omega)
  have hU2 : UpR w R R2 := (UpR.refl w R).trans j2 hF1.size
  have kg : w2.cell? ⟨w.heap.size, 0, none⟩ = some .nilIface := hg2.cell 0
  have fg : w2.frozen? ⟨w.heap.size, 0, none⟩ = false := hg2.frozen 0
  have hs2 := hg2.lt
  cases hr : DR.2 with
  | true =>
    rw [hr, if_pos rfl] at hrv
    subst hrv
    have hg3 := hg2.setCell 0 (errV 5)
    have hb3 := hb2.setOther (g := w.heap.size) (by omega) 0 (errV 5)
    have hF3 : Fr (DS R) w (w2.setCell ⟨w.heap.size, 0, none⟩ (errV 5)) := hF2.setCell (p := ⟨w.heap.size, 0, none⟩) (fun t => absurd t (Nat.lt_irrefl _)) _
    have hD3 : DAt (w2.setCell ⟨w.heap.size, 0, none⟩ (errV 5)) R2 b DR.1 := j1.frame (S := fun k => k = w.heap.size) ((Fr.refl (fun k => k = w.heap.size) w2).setCell (p := ⟨w.heap.size, 0, none⟩) (fun _ => rfl) _) (fun k hk => by subst hk; left; rw [j2 _ hg1.lt]; exact hz)
    have HE := hide (And.intro hl (And.intro hU2 (And.intro hg3 (And.intro hb3 (And.intro hF3 hD3)))))
    have HRR := hide hr
    clear hl hk hD hup hcnt hb hF1 hg1 SY hDR j1 j2 j3 hz hg2 hF2 hb2 hU2 hs2 hg3 hb3 hF3 hD3 hr
    go_wp2
    obtain ⟨hl, hU2, hg3, hb3, hF3, hD3⟩ := unhide HE
    have hr := unhide HRR
    generalize w2.setCell ⟨w.heap.size, 0, none⟩ (errV 5) = w3 at *
    have kg3 : w3.cell? ⟨w.heap.size, 0, none⟩ = some (errV 5) := hg3.cell 0
    refine leaves_cons (f := 42) (args := #[.pointer (some ⟨l, 0, none⟩), .pointer (some ⟨w.heap.size, 0, none⟩)]) (by simp) (by simp [go_sem]) ?_
    refine (notice_down .returning w3 l w.heap.size cs _ hb3 _ hl.c9 kg3).mono ?_
    rintro e u' w4 ⟨rfl, rfl, rfl⟩
    have hF4 : Fr (fun k => k = l) w3 (w3.setCell ⟨l, 9, none⟩ (.bool true)) := (Fr.refl (fun k => k = l) w3).setCell (p := ⟨l, 9, none⟩) (fun _ => rfl) _
    have kg4 : (w3.setCell ⟨l, 9, none⟩ (.bool true)).cell? ⟨w.heap.size, 0, none⟩ = some (errV 5) := (hF4.cell (a := ⟨w.heap.size, 0, none⟩) hg3.lt (by show ¬ w.heap.size = l; omega)).trans kg3
    refine ⟨errV 5, by simp [results, Tryz.results35, go_sem, kg4], rfl, R2, hD3.frame hF4 (fun k hk => by subst hk; right; rw [hU2 k ll, hl.role]; omega), hU2, (hF3.mono (fun _ _ t => Or.inl t)).trans hF4 (fun _ _ t => Or.inr ⟨hr, t⟩)⟩
  | false =>
    rw [hr, if_neg (by decide)] at hrv
    subst hrv
    have hg3 := hg2.setCell 0 .nilIface
    have hb3 := hb2.setOther (g := w.heap.size) (by omega) 0 .nilIface
    have hF3 : Fr (DS R) w (w2.setCell ⟨w.heap.size, 0, none⟩ .nilIface) := hF2.setCell (p := ⟨w.heap.size, 0, none⟩) (fun t => absurd t (Nat.lt_irrefl _)) _
    have hD3 : DAt (w2.setCell ⟨w.heap.size, 0, none⟩ .nilIface) R2 b DR.1 := j1.frame (S := fun k => k = w.heap.size) ((Fr.refl (fun k => k = w.heap.size) w2).setCell (p := ⟨w.heap.size, 0, none⟩) (fun _ => rfl) _) (fun k hk => by subst hk; left; rw [j2 _ hg1.lt]; exact hz)
    have HE := hide (And.intro hl (And.intro hU2 (And.intro hg3 (And.intro hb3 (And.intro hF3 hD3)))))
    have HRR := hide hr
    clear hl hk hD hup hcnt hb hF1 hg1 SY hDR j1 j2 j3 hz hg2 hF2 hb2 hU2 hs2 hg3 hb3 hF3 hD3 hr
    go_wp2
    obtain ⟨hl, hU2, hg3, hb3, hF3, hD3⟩ := unhide HE
    have hr := unhide HRR
    generalize w2.setCell ⟨w.heap.size, 0, none⟩ .nilIface = w3 at *
    have kg3 : w3.cell? ⟨w.heap.size, 0, none⟩ = some .nilIface := hg3.cell 0
    refine leaves_cons (f := 42) (args := #[.pointer (some ⟨l, 0, none⟩), .pointer (some ⟨w.heap.size, 0, none⟩)]) (by simp) (by simp [go_sem]) ?_
    refine (notice_nil .returning w3 l w.heap.size kg3).mono ?_
    rintro e u' w4 ⟨rfl, rfl, rfl⟩
    refine ⟨.nilIface, by simp [results, Tryz.results35, go_sem, kg3], rfl, R2, hD3, hU2, hF3.mono (fun _ _ t => Or.inl t)⟩

end Go.Proofs.YtjkghgcdkfkekaaGreatDoor

/- Contracts: a log's Room, Records and Number. -/
namespace Go.Proofs.YtjkghgcdkfkekaaGreatDoor
open Go.RowKit

theorem lrecords_any (w : World) (R : Nat → Nat) (l : Nat) (cs : Array Value) (p first H G : Nat) (rs : List Bs) (num : Nat) (hl : LogAt w R l cs p first H G rs num) :
    Calls Tryz.prog 36 #[.pointer (some ⟨l, 0, none⟩)] w fun e w' => e = .returned (.int .i64 (rs.length : Int)) ∧ w' = w := by
  have k5 : w.cell? ⟨l, 5, none⟩ = some (.int .i64 (rs.length : Int)) := (hl.st.box.cell 5).trans hl.st.c4
  clear hl
  go_enter Tryz.func36, Tryz.ntmps36
  go_wp2
  go_ret
  exact ⟨rfl, rfl⟩

theorem lnumber_any (w : World) (R : Nat → Nat) (l : Nat) (cs : Array Value) (p first H G : Nat) (rs : List Bs) (num : Nat) (hl : LogAt w R l cs p first H G rs num) :
    Calls Tryz.prog 37 #[.pointer (some ⟨l, 0, none⟩)] w fun e w' => e = .returned (.int .i64 (num : Int)) ∧ w' = w := by
  have k8 : w.cell? ⟨l, 8, none⟩ = some (.int .i64 (num : Int)) := (hl.st.box.cell 8).trans hl.c8
  clear hl
  go_enter Tryz.func37, Tryz.ntmps37
  go_wp2
  go_ret
  exact ⟨rfl, rfl⟩

theorem lroom_any (w : World) (R : Nat → Nat) (l : Nat) (cs : Array Value) (p b many first H G : Nat) (rs : List Bs) (num : Nat) (hl : LogAt w R l cs p first H G rs num) (hk : Dsk w R p b many) (h4 : 4 ≤ many) (hm : many ≤ 1048576) (hst : (strm rs).length ≤ 504 * hlf many) :
    Calls Tryz.prog 33 #[.pointer (some ⟨l, 0, none⟩)] w fun e w' => e = .returned (.int .i64 (504 * (hlf many : Int) - (bgn (strm rs).length : Int) - 12)) ∧ Fr (fun _ => False) w w' := by
  have k0 : w.drew.cell? ⟨l, 0, none⟩ = some (.pointer (some ⟨p, 0, none⟩)) := (hl.st.box.drew.cell 0).trans hl.c0
  have k6 : w.drew.cell? ⟨l, 6, none⟩ = some (.int .i64 (bgn (strm rs).length : Int)) := (hl.st.box.drew.cell 6).trans hl.st.c5
  have hb := hlf_bd many h4 hm
  have hfr : Fr (fun _ => False) w w.drew := (Fr.refl _ _).drew
  have SE := sectors_any w.drew R p b many (hk.frame hfr (fun _ _ t => t) (UpR.refl _ _))
  have SS := ssize_any w.drew many h4 hm
  have hlen := bgn_lt (strm rs).length
  generalize bgn (strm rs).length = B at *
  have hB : (B : Int) ≤ 264241160 := by omega
  have hB0 : (0 : Int) ≤ (B : Int) := by omega
  have hh1 : (hlf many : Int) ≤ 524287 := by omega
  have hh0 : (1 : Int) ≤ (hlf many : Int) := by omega
  generalize hlf many = HL at *
  have HS := hide (And.intro SE SS)
  have hw1 : IntKind.i64.wrap (504 * (HL : Int) - (B : Int)) = 504 * (HL : Int) - (B : Int) := by rw [IntKind.wrap_i64]; omega
  have hw2 : IntKind.i64.wrap (504 * (HL : Int) - (B : Int) - 12) = 504 * (HL : Int) - (B : Int) - 12 := by rw [IntKind.wrap_i64]; omega
  have HK := hide (And.intro k0 k6)
  have HF := hide hfr
  clear SE SS hlen hb hfr hl hk k0 k6
  go_enter Tryz.func33, Tryz.ntmps33
  go_wp2
  go_region_held3 (fun w' => w'.cell? ⟨l, 0, none⟩ = some (.pointer (some ⟨p, 0, none⟩)) ∧ w'.cell? ⟨l, 6, none⟩ = some (.int .i64 (B : Int))) (exact unhide HK) (first | (go_at_call 39; refine (unhide HS).1.mono ?_; rintro e w1 ⟨rfl, rfl⟩) | (go_at_call 63; refine (unhide HS).2.mono ?_; rintro e w1 ⟨rfl, rfl⟩))
  go_wp2
  go_ret
  exact ⟨rfl, unhide HF⟩

end Go.Proofs.YtjkghgcdkfkekaaGreatDoor

/- Contracts: a log's Append. -/
namespace Go.Proofs.YtjkghgcdkfkekaaGreatDoor
open Go.RowKit

theorem LogAt.frame {S : Nat → Prop} {w w' : World} {R R' : Nat → Nat} {l : Nat} {cs : Array Value} {p first H G : Nat} {rs : List Bs} {num : Nat} (h : LogAt w R l cs p first H G rs num) (hF : Fr S w w') (h6 : ∀ k, R k = 6 → ¬ S k) (hU : UpR w R R') : LogAt w' R' l cs p first H G rs num :=
  ⟨h.st.frame hF (h6 l h.role) (fun k hk _ => h6 k hk) hU, h.size, h.c0, h.c8, h.c9, by rw [hU l h.st.box.lt]; exact h.role⟩

set_option maxHeartbeats 1000000 in
set_option maxRecDepth 20000 in
theorem lappend_any (w : World) (R : Nat → Nat) (l : Nat) (cs : Array Value) (p b : Nat) (d : Dk) (first G : Nat) (rs : List Bs) (num : Nat) (hT : TabR w R) (hl : LogAt w R l cs p first (hlf d.many) G rs num) (hk : Dsk w R p b d.many) (hD : DAt w R b d) (hup : d.down = false) (hcnt : d.cnt + 524288 < 576460752303423488 ∧ d.wait.length + 524288 < 2199023255552) (h4 : 4 ≤ d.many) (hm : d.many ≤ 1048576)
    (hfh : first + hlf d.many ≤ d.many) (hG : G < 9223372036854775808) (hst : (strm rs).length ≤ 504 * hlf d.many) (xo : Option Addr) (xc : Nat) (x : Bs) (hx : BAt w xo xc x) (hxr : ∀ b off, 0 < x.length → xo = some ⟨b, off, none⟩ → R b = 0) (hfit : (strm (rs ++ [x])).length ≤ 504 * hlf d.many) :
    Calls Tryz.prog 12 #[.pointer (some ⟨l, 0, none⟩), .slice xo x.length xc] w fun e w' => e = .returned (if (d.run (putActs first G rs x)).2 then errV 5 else .nilIface) ∧ ∃ R' cs', DAt w' R' b (d.run (putActs first G rs x)).1 ∧ UpR w R R' ∧ Fr (fun k => DS R k ∨ k = l) w w' ∧
      ((d.run (putActs first G rs x)).2 = false → LogAt w' R' l cs' p first (hlf d.many) G (rs ++ [x]) num) := by
  have hb := hl.st.box
  have ll := hb.lt
  have k0 : w.cell? ⟨l, 0, none⟩ = some (.pointer (some ⟨p, 0, none⟩)) := (hb.cell 0).trans hl.c0
  have k9 : w.cell? ⟨l, 9, none⟩ = some (.bool false) := (hb.cell 9).trans hl.c9
  have hbd := hlf_bd d.many h4 hm
  have hF1 : Fr (fun _ => False) w (w.alloc (.cells #[.nilIface] 34)) := (Fr.refl _ _).alloc _
  have hg1 := Bx.new w #[.nilIface] 34
  have hz : R w.heap.size = 0 := hD.zero _ (Nat.le_refl _)
  have RO := lroom_any (w.alloc (.cells #[.nilIface] 34)) R l cs p b d.many first (hlf d.many) G rs num (hl.frame hF1 (fun _ _ t => t) (UpR.refl _ _)) (hk.frame hF1 (fun _ _ t => t) (UpR.refl _ _)) h4 hm hst
  have hln : (strm (rs ++ [x])).length = bgn (strm rs).length + 12 + x.length := by rw [strm_snoc, addR_length]
  have hle : ((504 * (hlf d.many : Int) - (bgn (strm rs).length : Int) - 12) < (x.length : Int)) = False := by simp; omega
  have hxl : (x.length : Int) ≤ 264241160 := by omega
  have PU : ∀ w2, Fr (fun _ => False) w w2 → Calls Tryz.prog 43 #[.pointer (some ⟨l, 1, none⟩), .slice xo x.length xc] w2 fun e w' =>
      e = .returned (if (d.run (putActs first G rs x)).2 then errV 5 else .nilIface) ∧ ∃ R' cs', DAt w' R' b (d.run (putActs first G rs x)).1 ∧ UpR w2 R R' ∧ Fr (fun k => DS R k ∨ k = l) w2 w' ∧ Bx w' l cs' 100 ∧ cs'.size = cs.size ∧ (∀ i, i < 1 + 4 ∨ 1 + 7 ≤ i → cs'[i]? = cs[i]?) ∧
        ((d.run (putActs first G rs x)).2 = false → StAt w' R' l 1 cs' 100 p first (hlf d.many) G (rs ++ [x])) := fun w2 hf =>
    put_any w2 R l 1 cs 100 p b d first (hlf d.many) G rs (hT.frame hf (fun _ t => t.elim) (UpR.refl _ _)) (hl.frame hf (fun _ _ t => t) (UpR.refl _ _)).st (.inr hl.role) (hk.frame hf (fun _ _ t => t) (UpR.refl _ _)) (hD.frame hf (fun _ t => t.elim)) hup hcnt hfh hbd.2 hG xo xc x (hx.later hf) hxr hfit
  have HH := hide (And.intro hl (And.intro hb (And.intro hF1 (And.intro hg1 (And.intro hz (And.intro RO PU))))))
  obtain ⟨DR, hDR⟩ : ∃ DR, DR = d.run (putActs first G rs x) := ⟨_, rfl⟩
  obtain ⟨rv, hrv⟩ : ∃ rv : Value, rv = if DR.2 then errV 5 else .nilIface := ⟨_, rfl⟩
  rw [← hDR, ← hrv]
  have HDR := hide (And.intro hDR hrv)
  clear hDR hrv hT hl hk hD hup hcnt hb hF1 hg1 hz RO PU hbd hx hxr hfit hfh hG hst h4 hm hln
  generalize bgn (strm rs).length = BG at *
  generalize hlf d.many = HL at *
  go_enter_defers Tryz.func12, Tryz.ntmps12
  go_wp2_with fail
  refine (unhide HH).2.2.2.2.2.1.mono ?_
  rintro e w2 ⟨rfl, hF2⟩
  have HF2 := hide hF2
  clear hF2
  go_wp2_with fail
  obtain ⟨hl, hb, hF1, hg1, hz, RO, PU⟩ := unhide HH
  obtain ⟨hDR, hrv⟩ := unhide HDR
  have hF2 := unhide HF2
  have hF02 : Fr (fun _ => False) w w2 := hF1.trans hF2 (fun _ _ t => t)
  refine (PU w2 hF02).mono ?_
  rintro e w3 ⟨rfl, R3, cs3, j1, j2, j3, j4, j5, j6, j7⟩
  rw [← hDR] at j1 j7
  rw [← hDR, ← hrv]
  have hg2 := hg1.keep hF2
  have hg3 := hg2.frame j3 (fun t => by rcases t with t | t; (· have := t.1; omega); omega)
  have hF3 : Fr (fun k => DS R k ∨ k = l) w w3 := (hF02.mono (fun _ _ t => t.elim)).trans j3 (fun _ _ t => t)
  have hU3 : UpR w R R3 := (UpR.refl w R).trans j2 hF02.size
  have hz3 : R3 w.heap.size = 0 := by rw [j2 _ hg2.lt]; exact hz
  have kg : w3.cell? ⟨w.heap.size, 0, none⟩ = some .nilIface := hg3.cell 0
  have fg : w3.frozen? ⟨w.heap.size, 0, none⟩ = false := hg3.frozen 0
  have hs3 := hg3.lt
  have h39 : cs3[9]? = some (.bool false) := (j6 9 (.inr (by omega))).trans hl.c9
  cases hr : DR.2 with
  | true =>
    rw [hr, if_pos rfl] at hrv
    subst hrv
    have hg4 := hg3.setCell 0 (errV 5)
    have hFs : Fr (fun k => k = w.heap.size) w3 (w3.setCell ⟨w.heap.size, 0, none⟩ (errV 5)) := (Fr.refl (fun k => k = w.heap.size) w3).setCell (p := ⟨w.heap.size, 0, none⟩) (fun _ => rfl) _
    have hb4 := j4.setOther (g := w.heap.size) (by omega) 0 (errV 5)
    have hF4 : Fr (fun k => DS R k ∨ k = l) w (w3.setCell ⟨w.heap.size, 0, none⟩ (errV 5)) := hF3.setCell (p := ⟨w.heap.size, 0, none⟩) (fun t => absurd t (Nat.lt_irrefl _)) _
    have hD4 : DAt (w3.setCell ⟨w.heap.size, 0, none⟩ (errV 5)) R3 b DR.1 := j1.frame hFs (fun k hk => by subst hk; left; exact hz3)
    have HE := hide (And.intro hl (And.intro hU3 (And.intro hg4 (And.intro hb4 (And.intro hF4 (And.intro hD4 (And.intro h39 (And.intro hFs (And.intro hz3 (And.intro j5 (And.intro j6 j7)))))))))))
    have HRR := hide hr
    clear hl hb hF1 hg1 hz RO PU hDR hF2 hF02 j1 j2 j3 j4 j5 j6 j7 hg2 hg3 hF3 hU3 hz3 hs3 h39 hg4 hFs hb4 hF4 hD4 hr
    go_wp2
    obtain ⟨hl, hU3, hg4, hb4, hF4, hD4, h39, hFs, hz3, j5, j6, j7⟩ := unhide HE
    have hr := unhide HRR
    generalize w3.setCell ⟨w.heap.size, 0, none⟩ (errV 5) = w4 at *
    have kg4 : w4.cell? ⟨w.heap.size, 0, none⟩ = some (errV 5) := hg4.cell 0
    refine leaves_cons (f := 42) (args := #[.pointer (some ⟨l, 0, none⟩), .pointer (some ⟨w.heap.size, 0, none⟩)]) (by simp) (by simp [go_sem]) ?_
    refine (notice_down .returning w4 l w.heap.size cs3 _ hb4 _ h39 kg4).mono ?_
    rintro e u' w5 ⟨rfl, rfl, rfl⟩
    have hF5 : Fr (fun k => k = l) w4 (w4.setCell ⟨l, 9, none⟩ (.bool true)) := (Fr.refl (fun k => k = l) w4).setCell (p := ⟨l, 9, none⟩) (fun _ => rfl) _
    have kg5 : (w4.setCell ⟨l, 9, none⟩ (.bool true)).cell? ⟨w.heap.size, 0, none⟩ = some (errV 5) := (hF5.cell (a := ⟨w.heap.size, 0, none⟩) hg4.lt (by show ¬ w.heap.size = l; omega)).trans kg4
    refine ⟨errV 5, by simp [results, Tryz.results12, go_sem, kg5], rfl, R3, cs3, hD4.frame hF5 (fun k hk => by subst hk; right; rw [hU3 k ll, hl.role]; omega), hU3, hF4.trans hF5 (fun _ _ t => Or.inr t), fun h => by rw [hr] at h; cases h⟩
  | false =>
    rw [hr, if_neg (by decide)] at hrv
    subst hrv
    have hg4 := hg3.setCell 0 .nilIface
    have hFs : Fr (fun k => k = w.heap.size) w3 (w3.setCell ⟨w.heap.size, 0, none⟩ .nilIface) := (Fr.refl (fun k => k = w.heap.size) w3).setCell (p := ⟨w.heap.size, 0, none⟩) (fun _ => rfl) _
    have hb4 := j4.setOther (g := w.heap.size) (by omega) 0 .nilIface
    have hF4 : Fr (fun k => DS R k ∨ k = l) w (w3.setCell ⟨w.heap.size, 0, none⟩ .nilIface) := hF3.setCell (p := ⟨w.heap.size, 0, none⟩) (fun t => absurd t (Nat.lt_irrefl _)) _
    have hD4 : DAt (w3.setCell ⟨w.heap.size, 0, none⟩ .nilIface) R3 b DR.1 := j1.frame hFs (fun k hk => by subst hk; left; exact hz3)
    have HE := hide (And.intro hl (And.intro hU3 (And.intro hg4 (And.intro hb4 (And.intro hF4 (And.intro hD4 (And.intro h39 (And.intro hFs (And.intro hz3 (And.intro j5 (And.intro j6 j7)))))))))))
    have HRR := hide hr
    clear hl hb hF1 hg1 hz RO PU hDR hF2 hF02 j1 j2 j3 j4 j5 j6 j7 hg2 hg3 hF3 hU3 hz3 hs3 h39 hg4 hFs hb4 hF4 hD4 hr
    go_wp2
    obtain ⟨hl, hU3, hg4, hb4, hF4, hD4, h39, hFs, hz3, j5, j6, j7⟩ := unhide HE
    have hr := unhide HRR
    generalize w3.setCell ⟨w.heap.size, 0, none⟩ .nilIface = w4 at *
    have kg4 : w4.cell? ⟨w.heap.size, 0, none⟩ = some .nilIface := hg4.cell 0
    refine leaves_cons (f := 42) (args := #[.pointer (some ⟨l, 0, none⟩), .pointer (some ⟨w.heap.size, 0, none⟩)]) (by simp) (by simp [go_sem]) ?_
    refine (notice_nil .returning w4 l w.heap.size kg4).mono ?_
    rintro e u' w5 ⟨rfl, rfl, rfl⟩
    refine ⟨.nilIface, by simp [results, Tryz.results12, go_sem, kg4], rfl, R3, cs3, hD4, hU3, hF4, fun h => ?_⟩
    exact ⟨(j7 h).frame hFs (by omega) (fun k hk _ hs => by rw [hs, hz3] at hk; omega) (UpR.refl _ _), j5.trans hl.size, (j6 0 (.inl (by omega))).trans hl.c0, (j6 8 (.inr (by omega))).trans hl.c8, h39, by rw [hU3 l ll]; exact hl.role⟩

end Go.Proofs.YtjkghgcdkfkekaaGreatDoor

/- Contracts: a log's Append where there is no room. -/
namespace Go.Proofs.YtjkghgcdkfkekaaGreatDoor
open Go.RowKit

set_option maxHeartbeats 1000000 in
set_option maxRecDepth 20000 in
theorem lappend_full (w : World) (R : Nat → Nat) (l : Nat) (cs : Array Value) (p b : Nat) (many : Nat) (first G : Nat) (rs : List Bs) (num : Nat) (hl : LogAt w R l cs p first (hlf many) G rs num) (hk : Dsk w R p b many) (h4 : 4 ≤ many) (hm : many ≤ 1048576)
    (hst : (strm rs).length ≤ 504 * hlf many) (xo : Option Addr) (xc : Nat) (x : Bs) (hno : 504 * hlf many < (strm (rs ++ [x])).length) :
    Calls Tryz.prog 12 #[.pointer (some ⟨l, 0, none⟩), .slice xo x.length xc] w fun e w' => e = .returned (errV 91) ∧ Fr (fun _ => False) w w' := by
  have hb := hl.st.box
  have ll := hb.lt
  have k0 : w.cell? ⟨l, 0, none⟩ = some (.pointer (some ⟨p, 0, none⟩)) := (hb.cell 0).trans hl.c0
  have k9 : w.cell? ⟨l, 9, none⟩ = some (.bool false) := (hb.cell 9).trans hl.c9
  have hF1 : Fr (fun _ => False) w (w.alloc (.cells #[.nilIface] 34)) := (Fr.refl _ _).alloc _
  have hg1 := Bx.new w #[.nilIface] 34
  have RO := lroom_any (w.alloc (.cells #[.nilIface] 34)) R l cs p b many first (hlf many) G rs num (hl.frame hF1 (fun _ _ t => t) (UpR.refl _ _)) (hk.frame hF1 (fun _ _ t => t) (UpR.refl _ _)) h4 hm hst
  have hln : (strm (rs ++ [x])).length = bgn (strm rs).length + 12 + x.length := by rw [strm_snoc, addR_length]
  have hle : ((504 * (hlf many : Int) - (bgn (strm rs).length : Int) - 12) < (x.length : Int)) = True := by simp; omega
  have HH := hide (And.intro hF1 (And.intro hg1 RO))
  clear hl hk hb hF1 hg1 RO hst h4 hm hln hno
  generalize bgn (strm rs).length = BG at *
  generalize hlf many = HL at *
  go_enter_defers Tryz.func12, Tryz.ntmps12
  go_wp2_with fail
  refine (unhide HH).2.2.mono ?_
  rintro e w2 ⟨rfl, hF2⟩
  have hg2 := (unhide HH).2.1.keep hF2
  have kg : w2.cell? ⟨w.heap.size, 0, none⟩ = some .nilIface := hg2.cell 0
  have fg : w2.frozen? ⟨w.heap.size, 0, none⟩ = false := hg2.frozen 0
  have hg3 := hg2.setCell 0 (errV 91)
  have hF3 : Fr (fun _ => False) w (w2.setCell ⟨w.heap.size, 0, none⟩ (errV 91)) := ((unhide HH).1.trans hF2 (fun _ _ t => t)).setCell (p := ⟨w.heap.size, 0, none⟩) (fun t => absurd t (Nat.lt_irrefl _)) _
  have HE := hide (And.intro hg3 hF3)
  clear hF2 hg2 hg3 hF3
  go_wp2
  obtain ⟨hg3, hF3⟩ := unhide HE
  generalize w2.setCell ⟨w.heap.size, 0, none⟩ (errV 91) = w3 at *
  have kg3 : w3.cell? ⟨w.heap.size, 0, none⟩ = some (errV 91) := hg3.cell 0
  refine leaves_cons (f := 42) (args := #[.pointer (some ⟨l, 0, none⟩), .pointer (some ⟨w.heap.size, 0, none⟩)]) (by simp) (by simp [go_sem]) ?_
  refine (notice_other .returning w3 l w.heap.size 91 (by decide) kg3).mono ?_
  rintro e u' w4 ⟨rfl, rfl, rfl⟩
  exact ⟨errV 91, by simp [results, Tryz.results12, go_sem, kg3], rfl, hF3⟩

end Go.Proofs.YtjkghgcdkfkekaaGreatDoor

