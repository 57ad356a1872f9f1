import Derived.Test.YtabhfeocelljdaaGreatDoorZG4
import Derived.Test.YtabhfeocelljdaaGreatDoorZF6
/- Contract: the receiver's Got. -/
namespace Go.Proofs.YtabhfeocelljdaaGreatDoor
open Go.RowKit Go.Maps

/-- Those of a frame's items that come next. -/
def gotL (n : Int) : Int → List (List UInt8) → List Itm
  | _, [] => []
  | q, b :: r => (if n ≤ q then [⟨q, b⟩] else []) ++ gotL n (q + 1) r
/-- What Got answers, and what the receiver knows then. -/
def gotF (n : Int) (f : Fm) : Int × List Itm :=
  if f.kind = 1 ∧ f.may = true then (max n f.base, if max n f.base < f.seq then [] else gotL (max n f.base) f.seq f.items) else (n, [])

theorem gotL_append (n q : Int) (l : List (List UInt8)) (i : Nat) (h : i < l.length) : gotL n q (l.take (i + 1)) = gotL n q (l.take i) ++ (if n ≤ q + (i : Int) then [⟨q + (i : Int), l[i]⟩] else []) := by
  induction l generalizing q i with
  | nil => simp at h
  | cons b r ih =>
    cases i with
    | zero => simp [gotL]
    | succ i =>
      have := ih (q + 1) i (by simpa using h)
      simp only [List.take_succ_cons, gotL, List.getElem_cons_succ]
      rw [this, List.append_assoc]
      rw [show q + 1 + (i : Int) = q + ((i + 1 : Nat) : Int) by omega]
theorem gotL_length (n q : Int) (l : List (List UInt8)) : (gotL n q l).length ≤ l.length := by
  induction l generalizing q with
  | nil => simp [gotL]
  | cons b r ih =>
    have := ih (q + 1)
    simp only [gotL, List.length_append, List.length_cons]
    split <;> simp <;> omega

/-- Items of one's own: each one's bytes in a block of its own. -/
structure QL (M : Nat) (wk : World) (io : Option Addr) (ic ib : Nat) (es : List (Int × RD)) (xs : List Itm) : Prop where
  row : KRow wk io ic ib 2 (es.flatMap fun e => [.int .i64 e.1, e.2.val])
  n1 : es.length = xs.length
  it : ∀ (i : Nat) (e : Int × RD) (x : Itm), es[i]? = some e → xs[i]? = some x → e.1 = x.seq ∧ Row wk e.2.val e.2.g x.bytes ∧ e.2.n = x.bytes.length ∧ (0 < e.2.cap → M ≤ e.2.g ∧ (0 < ic → e.2.g ≠ ib))
  ib : 0 < ic → M ≤ ib
  len : ∀ x ∈ xs, x.bytes.length ≤ 140737488355328
theorem QL.nil (M : Nat) (wk : World) (ib : Nat) : QL M wk none 0 ib [] [] :=
  ⟨KRow.nil _ _ _, rfl, fun i d b h => by simp at h, fun h => absurd h (by omega), fun b h => by (cases h)⟩
theorem QL.stay {S : Nat → Prop} {M : Nat} {wk w' : World} {io : Option Addr} {ic ib : Nat} {es : List (Int × RD)} {xs : List Itm} (h : QL M wk io ic ib es xs) (k : Fr S wk w') (hS : ∀ i, S i → i < M) : QL M w' io ic ib es xs := by
  refine ⟨h.row.stay (fun hc => k.block ib (h.row.lt (by omega) hc) (fun t => by have := hS _ t; have := h.ib hc; omega)), h.n1, fun i e x e1 e2 => ?_, h.ib, h.len⟩
  obtain ⟨r0, r1, r2, r3⟩ := h.it i e x e1 e2
  exact ⟨r0, r1.other k (fun hc t => by have := hS _ t; have := (r3 hc).1; omega), r2, r3⟩
theorem flat2_len (es : List (Int × RD)) : (es.flatMap fun e => [Value.int .i64 e.1, e.2.val]).length = es.length * 2 := by
  induction es with
  | nil => rfl
  | cons x r ih => rw [List.flatMap_cons, List.length_append, ih]; simp; omega
theorem flat2_get (es : List (Int × RD)) : ∀ (i j : Nat) (e : Int × RD), es[i]? = some e → j < 2 → (es.flatMap fun e => [Value.int .i64 e.1, e.2.val])[i * 2 + j]? = [Value.int .i64 e.1, e.2.val][j]? := by
  induction es with
  | nil => intro i j x h; simp at h
  | cons y r ih =>
    intro i j x h hj
    rw [List.flatMap_cons]
    cases i with
    | zero =>
      have : y = x := by simpa using h
      subst this
      rw [List.getElem?_append_left (by simp; omega)]
      congr 1; omega
    | succ i =>
      rw [List.getElem?_append_right (by simp; omega)]
      rw [show (i + 1) * 2 + j - [Value.int .i64 y.1, y.2.val].length = i * 2 + j by simp; omega]
      exact ih i j x (by simpa using h) hj
/-- One item more. -/
theorem QL.next {M : Nat} {wk w' : World} {io io' : Option Addr} {ic ib ic' ib' : Nat} {es : List (Int × RD)} {xs : List Itm} (h : QL M wk io ic ib es xs) {q : Int} {d : RD} {x : List UInt8} (hx : x.length ≤ 140737488355328)
    (hr : Row wk d.val d.g x) (hn : d.n = x.length) (hM : 0 < d.cap → M ≤ d.g ∧ (0 < ic → d.g ≠ ib)) (k1 : KRow w' io' ic' ib' 2 ((es.flatMap fun e => [.int .i64 e.1, e.2.val]) ++ [.int .i64 q, d.val])) (k2 : Grew wk ib ic w' ib' ic') (hMs : M ≤ wk.heap.size) : QL M w' io' ic' ib' (es ++ [(q, d)]) (xs ++ [⟨q, x⟩]) := by
  have hst : ∀ (e : RD) (y : List UInt8), Row wk e.val e.g y → (0 < e.cap → 0 < ic → e.g ≠ ib) → Row w' e.val e.g y := by
    intro e y hy hb
    rcases k2 with ⟨_, _, f⟩ | ⟨_, _, f⟩
    · exact hy.other f (fun hc t => hb hc t.2 t.1)
    · exact hy.other f (fun _ t => t)
  have hne : ∀ b, b < wk.heap.size → (0 < ic → b ≠ ib) → (0 < ic' → b ≠ ib') := by
    intro b hb h1 h2
    rcases k2 with ⟨e1, e2, _⟩ | ⟨e1, _, _⟩
    · subst e1 e2; exact h1 h2
    · omega
  refine ⟨by rw [List.flatMap_append]; exact k1, by simp [h.n1], fun i e y e1 e2 => ?_, fun h2 => ?_, fun b hb => ?_⟩
  · by_cases hil : i < xs.length
    · rw [List.getElem?_append_left (by rw [h.n1]; exact hil)] at e1
      rw [List.getElem?_append_left hil] at e2
      obtain ⟨r0, r1, r2, r3⟩ := h.it i e y e1 e2
      exact ⟨r0, hst e.2 y.bytes r1 (fun hc => (r3 hc).2), r2, fun hc => ⟨(r3 hc).1, hne _ (r1.below hc) (r3 hc).2⟩⟩
    · have hi1 := (List.getElem?_eq_some_iff.1 e1).1
      rw [List.length_append, List.length_singleton, h.n1] at hi1
      obtain rfl : i = xs.length := by omega
      have e1' : (q, d) = e := by rw [← h.n1] at e1; simpa using e1
      have e2' : (⟨q, x⟩ : Itm) = y := by simpa using e2
      subst e1' e2'
      exact ⟨rfl, hst d x hr (fun hc => (hM hc).2), hn, fun hc => ⟨(hM hc).1, hne _ (hr.below hc) (hM hc).2⟩⟩
  · rcases k2 with ⟨e1, e2, _⟩ | ⟨e1, _, _⟩
    · subst e1 e2; exact h.ib h2
    · omega
  · rw [List.mem_append, List.mem_singleton] at hb
    rcases hb with hb | rfl
    · exact h.len b hb
    · exact hx
theorem QL.its {M : Nat} {wk : World} {io : Option Addr} {ic ib : Nat} {es : List (Int × RD)} {xs : List Itm} (h : QL M wk io ic ib es xs) (hs : xs.length ≤ 140737488355328) : ItsAt wk io xs := by
  refine ⟨fun h0 => ?_, hs⟩
  have hle := h.row.le
  rw [flat2_len, h.n1] at hle
  refine ⟨ib, 0, h.row.ad (by omega), fun i hi => ?_⟩
  have hi' : i < es.length := by rw [h.n1]; exact hi
  obtain ⟨e0, e2, e3, _⟩ := h.it i es[i] xs[i] (List.getElem?_eq_getElem hi') (List.getElem?_eq_getElem hi)
  have hv : ∀ j, j < 2 → wk.cell? ⟨ib, i * 2 + j, none⟩ = [Value.int .i64 es[i].1, es[i].2.val][j]? := fun j hj => by
    have hlt : i * 2 + j < (es.flatMap fun e => [Value.int .i64 e.1, e.2.val]).length := by rw [flat2_len]; omega
    rw [h.row.cells _ hlt, ← List.getElem?_eq_getElem hlt]
    exact flat2_get es i j es[i] (List.getElem?_eq_getElem hi') hj
  have v0 := hv 0 (by omega)
  have v1 := hv 1 (by omega)
  have hx := h.len _ (List.getElem_mem hi)
  generalize es[i] = e at *
  obtain ⟨q, ao, n, cap, g⟩ := e
  have e3 : n = xs[i].bytes.length := e3
  subst e3
  have e0 : q = xs[i].seq := e0
  subst e0
  exact ⟨by rw [Nat.zero_add]; exact v0, ao, cap, by rw [Nat.zero_add]; exact v1, (Row.bat e2 hx).2⟩

theorem infoIt : (Tryz.prog.info? 47).map (fun i => (i.zero, i.size, i.bytes)) = some (some (.agg #[.int .i64 0, .slice none 0 0]), 2, 32) := by kernel_rfl

set_option maxHeartbeats 2000000 in
set_option maxRecDepth 20000 in
theorem got_none {w : World} {p : Nat} (f : Fm) (io : Option Addr) (ic : Nat) (bo : Option Addr) (bc : Nat) (hA : f.At w io bo bc) (hm : ¬ (f.kind = 1 ∧ f.may = true)) :
    Calls Tryz.prog 21 #[.pointer (some ⟨p, 0, none⟩), .agg (f.cells io ic bo bc)] w fun e w' => e = .returned (.slice none 0 0) ∧ Hid (Fr (fun _ => False) w w') := by
  obtain ⟨kd, ba, sq, its, bts⟩ := f
  have HA := hide (hA.later ((Fr.refl (fun _ => False) w).alloc (.cells #[.int .i64 kd, .int .i64 ba, .int .i64 sq, .slice io its.length ic, .slice bo bts.length bc] 25)))
  clear hA
  by_cases hk : kd = 1
  · have hmf : (Fm.mk kd ba sq its bts).may = false := by
      cases hh : (Fm.mk kd ba sq its bts).may with
      | false => rfl
      | true => exact absurd ⟨hk, hh⟩ hm
    subst hk
    have HM := hide hmf
    clear hmf hm
    simp only [Fm.cells]
    go_enter Tryz.func21, Tryz.ntmps21
    go_wp2_with fail
    refine (maybe_any _ ⟨1, ba, sq, its, bts⟩ io ic bo bc (unhide HA).items).mono ?_
    rw [unhide HM]
    rintro e w1 ⟨rfl, h1⟩
    go_wp2
    go_ret
    exact ⟨rfl, hide (((Fr.refl _ _).alloc _).trans (unhide h1) (fun _ _ t => t))⟩
  · have hkb : (kd != 1) = true := by simp [hk]
    clear hm hk
    simp only [Fm.cells]
    go_enter Tryz.func21, Tryz.ntmps21
    go_wp2
    go_ret
    exact ⟨rfl, hide ((Fr.refl _ _).alloc _)⟩

/-- What the loop of Got holds. -/
structure GK (w : World) (p B : Nat) (n' : Int) (cs : Array Value) (acc : List Itm) (ro : Option Addr) (rc rb : Nat) (es : List (Int × RD)) (wr : World) : Prop where
  fr : Fr (fun k => k = p) w wr
  rv : RV wr p n'
  bx : Bx wr B cs 25
  ql : QL (w.heap.size + 1) wr ro rc rb es acc
  pB : p < w.heap.size ∧ B = w.heap.size

theorem GK.keep {w : World} {p B : Nat} {n' : Int} {cs : Array Value} {acc : List Itm} {ro : Option Addr} {rc rb : Nat} {es : List (Int × RD)} {wr w' : World} (h : GK w p B n' cs acc ro rc rb es wr) (k : Fr (fun _ => False) wr w') : GK w p B n' cs acc ro rc rb es w' :=
  ⟨h.fr.trans k (fun _ _ t => t.elim), h.rv.keep k, h.bx.keep k, h.ql.stay k (fun _ t => t.elim), h.pB⟩
theorem GK.next {w : World} {p B : Nat} {n' : Int} {cs : Array Value} {acc : List Itm} {ro ro' : Option Addr} {rc rb rc' rb' : Nat} {es : List (Int × RD)} {wr w' : World} (h : GK w p B n' cs acc ro rc rb es wr) {q : Int} {d : RD} {x : List UInt8} (hx : x.length ≤ 140737488355328)
    (hr : Row wr d.val d.g x) (hn : d.n = x.length) (hM : 0 < d.cap → w.heap.size + 1 ≤ d.g ∧ (0 < rc → d.g ≠ rb)) (k1 : KRow w' ro' rc' rb' 2 ((es.flatMap fun e => [.int .i64 e.1, e.2.val]) ++ [.int .i64 q, d.val])) (k2 : Grew wr rb rc w' rb' rc') : GK w p B n' cs (acc ++ [⟨q, x⟩]) ro' rc' rb' (es ++ [(q, d)]) w' := by
  have hp := h.pB
  have hz := h.fr.size
  have hb := h.bx.lt
  have hS : ∀ i, (i = rb ∧ 0 < rc) → w.heap.size + 1 ≤ i := fun i t => by have := h.ql.ib t.2; omega
  exact ⟨h.fr.trans k2.frZ (fun i hi t => by have := hS i t; omega), h.rv.frame k2.frZ (fun t => by have := hS _ t; omega), h.bx.frame k2.frZ (fun t => by have := hS _ t; omega), h.ql.next hx hr hn hM k1 k2 (by omega), h.pB⟩

set_option maxHeartbeats 1000000 in
set_option maxRecDepth 20000 in
theorem got_some {w : World} {p : Nat} {n : Int} (h : RV w p n) (hn : 0 ≤ n ∧ n ≤ 4294967296) (f : Fm) (io : Option Addr) (ic : Nat) (bo : Option Addr) (bc : Nat) (hA : ∀ u, Fr (fun k => k = p) w u → f.At u io bo bc) (hk : f.kind = 1) (hm : f.may = true) :
    Calls Tryz.prog 21 #[.pointer (some ⟨p, 0, none⟩), .agg (f.cells io ic bo bc)] w fun e w' => ∃ ro rc, e = .returned (.slice ro (gotF n f).2.length rc) ∧ Hid (RV w' p (gotF n f).1 ∧ ItsAt w' ro (gotF n f).2 ∧ Fr (fun k => k = p) w w' ∧ (gotF n f).2.length ≤ rc) := by
  obtain ⟨hb0, hi1, hi8, hba, hbs, hsq, hl⟩ := Fm.may_one hm hk
  have hg : gotF n f = (max n f.base, if max n f.base < f.seq then [] else gotL (max n f.base) f.seq f.items) := by unfold gotF; rw [if_pos ⟨hk, hm⟩]
  rw [hg]
  obtain ⟨kd, ba, sq, its, bts⟩ := f
  simp only at hk hb0 hi1 hi8 hba hbs hsq hl
  subst hk
  simp only [Fm.cells]
  have HM := hide hm
  have HA := hide hA
  have HL := hide hl
  have hplt := h.lt
  have HB := hide (Bx.new w #[.int .i64 1, .int .i64 ba, .int .i64 sq, .slice io its.length ic, .slice bo bts.length bc] 25)
  have HR := hide (Bx.alloc h (.cells #[.int .i64 1, .int .i64 ba, .int .i64 sq, .slice io its.length ic, .slice bo bts.length bc] 25))
  have HF0 : Hid (Fr (fun _ => False) w (w.alloc (.cells #[.int .i64 1, .int .i64 ba, .int .i64 sq, .slice io its.length ic, .slice bo bts.length bc] 25))) := hide ((Fr.refl _ _).alloc _)
  obtain ⟨n', hn'⟩ : ∃ n', max n ba = n' := ⟨_, rfl⟩
  rw [hn']
  obtain ⟨ans, hans⟩ : ∃ ans, (if n' < sq then [] else gotL n' sq its) = ans := ⟨_, rfl⟩
  rw [hans]
  have HANS := hide hans
  have HNUM := hide (And.intro hi1 (And.intro hi8 (And.intro hba (And.intro hbs (And.intro hsq (And.intro hn hn'))))))
  clear h hA hl hm hg hans hi1 hi8 hba hbs hsq hn hn' hb0
  go_enter Tryz.func21, Tryz.ntmps21
  go_wp2_with fail
  refine (maybe_any _ ⟨1, ba, sq, its, bts⟩ io ic bo bc ((unhide HA w (Fr.refl _ _)).later (unhide HF0)).items).mono ?_
  rw [unhide HM]
  rintro e w1 ⟨rfl, h1⟩
  have HB1 := hide ((unhide HB).keep (unhide h1))
  have HR1 : Hid (RV w1 p n) := hide (Bx.keep (unhide HR) (unhide h1))
  have HF1 := hide ((unhide HF0).trans (unhide h1) (fun _ _ t => t))
  obtain ⟨B, hBe⟩ : ∃ B, w.heap.size = B := ⟨_, rfl⟩
  rw [hBe] at HB1
  have HPB : Hid (p < w.heap.size ∧ B = w.heap.size) := hide ⟨hplt, hBe.symm⟩
  have c0 : w1.cell? ⟨p, 0, none⟩ = some (.int .i64 n) := Bx.cell (unhide HR1) 0
  have f0 : w1.frozen? ⟨p, 0, none⟩ = false := Bx.frozen (unhide HR1) 0
  have d1 : w1.cell? ⟨B, 1, none⟩ = some (.int .i64 ba) := (unhide HB1).cell 1
  have HG : Hid (GK w p B n' #[.int .i64 1, .int .i64 ba, .int .i64 sq, .slice io its.length ic, .slice bo bts.length bc] [] none 0 0 [] (w1.setCell ⟨p, 0, none⟩ (.int .i64 n')).drew) := hide ⟨(Fr.setCell (S := fun k => k = p) ((unhide HF1).mono (fun _ _ t => t.elim)) (p := ⟨p, 0, none⟩) (fun _ => rfl) _).drew, by have := Bx.setCell (unhide HR1) 0 (.int .i64 n'); exact this, (unhide HB1).setOther (by omega) 0 _, QL.nil _ _ _, unhide HPB⟩
  have hmc : (n ≤ ba ∧ n' = ba) ∨ (ba < n ∧ n' = n) := by have := (unhide HNUM).2.2.2.2.2.2; omega
  clear HB HR HF0 h1 HR1 HB1
  obtain ⟨infoI, hii, hzi⟩ := Option.map_eq_some_iff.1 infoIt
  simp only [Prod.mk.injEq] at hzi
  have HII := hide (And.intro hii hzi)
  clear hii hzi
  have HIFE : Hid ((if n < ba then ba else n) = n') := hide (by split <;> omega)
  clear hmc
  go_wp2_with fail
  go_region_law (fail)
  all_goals
    rw [unhide HIFE]
    have HNN : Hid (0 ≤ n' ∧ n' ≤ 4294967296) := hide (by obtain ⟨a1, a2, a3, a4, a5, a6, a7⟩ := unhide HNUM; omega)
    have HCS : Hid (∃ cs : Array Value, cs[2]? = some (.int .i64 sq) ∧ cs[3]? = some (.slice io its.length ic) ∧ GK w p B n' cs [] none 0 0 [] (w1.setCell ⟨p, 0, none⟩ (.int .i64 n')).drew) := hide ⟨_, rfl, rfl, unhide HG⟩
    clear HG
    go_wp2_with fail
    generalize (w1.setCell ⟨p, 0, none⟩ (.int .i64 n')).drew = W3 at *
    obtain ⟨cs, hcs2, hcs3, hG⟩ := unhide HCS
    have HG := hide hG
    have HC2 := hide (And.intro hcs2 hcs3)
    clear hG HCS hcs2 hcs3 c0 f0 d1
    have c0 : W3.cell? ⟨p, 0, none⟩ = some (.int .i64 n') := Bx.cell (unhide HG).rv 0
    have d2 : W3.cell? ⟨B, 2, none⟩ = some (.int .i64 sq) := ((unhide HG).bx.cell 2).trans (unhide HC2).1
    have d3 : W3.cell? ⟨B, 3, none⟩ = some (.slice io its.length ic) := ((unhide HG).bx.cell 3).trans (unhide HC2).2
    by_cases hlt : n' < sq
    · have hd : decide (n' < sq) = true := by simp [hlt]
      have HAN : Hid (ans = []) := hide (by rw [← unhide HANS, if_pos hlt])
      clear hlt
      go_quiet (fail)
      go_wp2
      go_ret
      rw [unhide HAN]
      have hg := (unhide HG)
      exact ⟨none, 0, rfl, hide ⟨Bx.keep hg.rv ((Fr.refl _ _).drewN _), ⟨fun h0 => absurd h0 (by simp), by simp⟩, hg.fr.drewN _, by simp⟩⟩
    · have hd : decide (n' < sq) = false := by simp; omega
      have HAN : Hid (ans = gotL n' sq its) := hide (by rw [← unhide HANS, if_neg hlt])
      clear hlt
      go_quiet (fail)
      have HGD := hide ((unhide HG).keep ((Fr.refl (fun _ => False) W3).drewN nq))
      go_wp2
      go_loopw [5, 37] (fun fv iv wr => ∃ (i : Nat) (ro : Option Addr) (rc rb : Nat) (es : List (Int × RD)), i ≤ its.length ∧ fv = .slice ro es.length rc ∧ iv = .int .i64 i ∧ Hid (GK w p B n' cs (gotL n' sq (its.take i)) ro rc rb es wr)) (fun _ iv _ => its.length - (intOf iv).toNat)
      case atStart => exact ⟨0, none, 0, 0, [], Nat.zero_le _, rfl, rfl, HGD⟩
      case round =>
        obtain ⟨i, ro, rc, rb, es, hi, rfl, rfl, HK⟩ := hrel
        by_cases hil : i < its.length
        · have hiI : (i : Int) < (its.length : Int) := by omega
          have HAR := (unhide HA wr (unhide HK).fr).items
          obtain ⟨bi, off, e, hc⟩ := HAR.cells (by show 0 < its.length; omega)
          obtain ⟨ao, cap, k1, k3⟩ := hc i hil
          subst e
          clear hc HAR
          have HTK := hide (gotL_append n' sq its i hil)
          have hl256 := unhide HL its[i] (List.getElem_mem hil)
          simp only at k1 k3
          generalize its[i] = x at *
          have e0 : wr.cell? ⟨p, 0, none⟩ = some (.int .i64 n') := Bx.cell (unhide HK).rv 0
          have e2 : wr.cell? ⟨B, 2, none⟩ = some (.int .i64 sq) := ((unhide HK).bx.cell 2).trans (unhide HC2).1
          obtain ⟨hs1, hs2, hi8⟩ : 0 ≤ sq ∧ sq ≤ 4294967296 ∧ its.length ≤ 8 := by obtain ⟨a1, a2, a3, a4, a5, a6, a7⟩ := unhide HNUM; omega
          have hi8I : (i : Int) ≤ 8 := by omega
          by_cases hge : n' ≤ sq + (i : Int)
          · have hd1 : decide (sq + (i : Int) ≥ n') = true := by simp; omega
            have hd2 : decide (n' ≤ sq + (i : Int)) = true := hd1
            have HTT : Hid (gotL n' sq (its.take (i + 1)) = gotL n' sq (its.take i) ++ [⟨sq + (i : Int), x⟩]) := hide (by rw [unhide HTK, if_pos hge])
            have HBT := hide k3
            have HEL : Hid (es.length = (gotL n' sq (its.take i)).length ∧ (gotL n' sq (its.take i)).length ≤ 8) := hide ⟨(unhide HK).ql.n1, Nat.le_trans (gotL_length _ _ _) (by rw [List.length_take]; omega)⟩
            clear hge k3 HTK
            go_wp2_with fail
            refine (clone_any wr ao cap x (unhide HBT).1 (unhide HBT).2.1 (unhide HBT).2.2).mono ?_
            rintro e w8 ⟨v8, g8, rfl, r1, r2, r3⟩
            obtain ⟨ao8, cap8, rfl, hle8, hmx8, had8, hrm8⟩ := r1.shape
            have HR8 := hide (And.intro r1 (And.intro r2 r3))
            have HK8 := hide (((unhide HK).keep r2).keep ((Fr.refl (fun _ => False) _).alloc (.cells #[.int .i64 (sq + (i : Int)), .slice ao8 x.length cap8] 47)))
            have HSR := hide (src_one (P := Tryz.prog) w8 [.int .i64 (sq + (i : Int)), .slice ao8 x.length cap8] 45 47 2 Tryz.underlying45 rfl (fun u hu => by simp only [List.mem_cons, List.not_mem_nil, or_false] at hu; rcases hu with rfl | rfl <;> rfl) (W := w8.alloc (.cells #[.int .i64 (sq + (i : Int)), .slice ao8 x.length cap8] 47)) (fun j => by rw [World.cell?_alloc_new]; simp))
            clear r1 r2 r3 had8 hrm8
            go_wp2_with (at_builtin; refine wpList_append_krow _ rfl (.tmp 52) (.tmp 57) 45 45 rfl 47 infoI _ 2 (by omega) Tryz.underlying45 (unhide HII).1 (unhide HII).2.1 rfl (unhide HII).2.2.1 rfl (unhide HK8).ql.row (flat2_len es) _ _ 1 rfl (unhide HSR) (by rw [(unhide HII).2.2.2]; have := (unhide HEL); omega) (by have := (unhide HEL); omega) ?_)
            intro ro9 rc9 w9 rb9 hkr hgr
            have HK9 := hide ((unhide HK8).next (d := ⟨ao8, x.length, cap8, g8⟩) (x := x) (by omega) ((unhide HR8).1.frame ((Fr.refl (fun _ => False) _).alloc _) (fun t => t)) rfl (fun _ => by
              have h1 := (unhide HR8).2.2
              have h2 := (unhide HK).fr.size
              have h3 := (unhide HK).bx.lt
              have h4 := (unhide HK).pB.2
              refine ⟨by show w.heap.size + 1 ≤ g8; omega, fun hc => ?_⟩
              have h5 := (unhide HK).ql.row.lt (by omega) hc
              show g8 ≠ rb
              omega) hkr hgr)
            clear hkr hgr HSR HK8 HR8
            go_wp2
            exact ⟨⟨i + 1, ro9, rc9, rb9, es ++ [(sq + (i : Int), ⟨ao8, x.length, cap8, g8⟩)], by omega, by rw [List.length_append, List.length_singleton], by go_num, hide (by rw [unhide HTT]; exact unhide HK9)⟩, by simp [intOf]; omega⟩
          · have hd1 : decide (sq + (i : Int) ≥ n') = false := by simp; omega
            have hd2 : decide (n' ≤ sq + (i : Int)) = false := hd1
            have HTT : Hid (gotL n' sq (its.take (i + 1)) = gotL n' sq (its.take i)) := hide (by rw [unhide HTK, if_neg hge, List.append_nil])
            clear hge k3 HTK
            go_wp2
            exact ⟨⟨i + 1, ro, rc, rb, es, by omega, rfl, by go_num, hide (by rw [unhide HTT]; exact unhide HK)⟩, by simp [intOf]; omega⟩
        · obtain rfl : i = its.length := by omega
          have HKE : Hid (GK w p B n' cs ans ro rc rb es wr) := hide (by rw [unhide HAN]; have := unhide HK; rw [List.take_length] at this; exact this)
          have HEL : Hid (es.length = ans.length) := hide (unhide HKE).ql.n1
          clear HK HGD HG
          go_wp2
          go_ret
          have hk := unhide HKE
          refine ⟨ro, rc, by rw [← unhide HEL]; rfl, hide ⟨hk.rv, hk.ql.its (by rw [unhide HAN]; have := gotL_length n' sq its; have := (unhide HNUM).2.1; omega), hk.fr, ?_⟩⟩
          have := hk.ql.row.le
          rw [flat2_len, unhide HEL] at this
          omega

end Go.Proofs.YtabhfeocelljdaaGreatDoor

