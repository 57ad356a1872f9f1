import Derived.Test.YtlhgfnpialndaaaDB4
/- slices.DeleteFunc over a book's tokens; Listed. -/
namespace Go.Proofs.Ytlhgfnpialndaaa
open Go.RowKit Go.Maps

set_option maxRecDepth 20000 in
theorem slice_uptoT (g n m cap : Nat) (h : n ≤ cap) (hc : 0 < cap) (u : World) : (Instr.slice 48 (.slice (some ⟨g, 0, none⟩) m cap) none (some (.int .i64 (n : Int))) none).run Try.prog u = .ok (.slice (some ⟨g, 0, none⟩) n cap) u := by
  rw [run_slice_h (P := Try.prog) (w := u) 48 (some ⟨g, 0, none⟩) m cap Try.underlying48 .i64 (n : Int) (by omega) (by omega)]
  have e : (.slice (some ⟨g, 0, none⟩) n cap : Value) = sliced (some ⟨g, 0, none⟩) 0 n cap 1 := by
    unfold sliced
    rw [if_neg (by omega)]
    simp [Addr.add_lit]
  rw [e]
  rfl
set_option maxRecDepth 20000 in
theorem slice_fromT (g i n cap : Nat) (hi : i < cap) (hn : i ≤ n) (u : World) : (Instr.slice 48 (.slice (some ⟨g, 0, none⟩) n cap) (some (.int .i64 (i : Int))) none none).run Try.prog u = .ok (.slice (some ⟨g, i, none⟩) (n - i) (cap - i)) u := by
  rw [run_slice_l (P := Try.prog) (w := u) 48 (some ⟨g, 0, none⟩) n cap Try.underlying48 .i64 (i : Int) (by omega) (by omega)]
  have e : (.slice (some ⟨g, i, none⟩) (n - i) (cap - i) : Value) = sliced (some ⟨g, 0, none⟩) (i : Int).toNat n cap 1 := by
    unfold sliced
    rw [show (i : Int).toNat = i from rfl, if_neg (by omega)]
    simp [Addr.add_lit]
  rw [e]
  rfl

theorem ixS_cases (q : ByteArray → Bool) : ∀ (l : List ByteArray) (a : Nat), (ixS q l a = -1 ∧ l.filter (fun t => !q t) = l) ∨ ∃ k, k < l.length ∧ ixS q l a = ((a + k : Nat) : Int) ∧ (l.take (k + 1)).filter (fun t => !q t) = l.take k
  | [], a => Or.inl ⟨rfl, rfl⟩
  | x :: r, a => by
    unfold ixS
    cases hx : q x with
    | true => exact Or.inr ⟨0, by simp, by simp, by simp [hx]⟩
    | false =>
      rcases ixS_cases q r (a + 1) with ⟨h1, h2⟩ | ⟨k, h1, h2, h3⟩
      · exact Or.inl ⟨by simpa using h1, by simp [hx, h2]⟩
      · refine Or.inr ⟨k + 1, by simpa using h1, ?_, ?_⟩
        · rw [if_neg (by simp), h2]
          congr 1
          omega
        · rw [List.take_succ_cons, List.filter_cons_of_pos (by simp [hx]), h3, List.take_succ_cons]

/-- A row under way: of the first j texts those that stay lie ahead, from j on nothing has turned. -/
structure DInv (q : ByteArray → Bool) (l : List ByteArray) (i j : Nat) (m : List ByteArray) : Prop where
  len : m.length = l.length
  ahead : m.take i = (l.take j).filter (fun t => !q t)
  rest : ∀ k, j ≤ k → m[k]? = l[k]?
  lt : i < j
  le : j ≤ l.length
theorem DInv.drop {q : ByteArray → Bool} {l m : List ByteArray} {i j : Nat} (h : DInv q l i j m) (hj : j < l.length) (hq : q l[j] = true) : DInv q l i (j + 1) m :=
  ⟨h.len, by rw [h.ahead, List.take_succ_eq_append_getElem hj, List.filter_append]; simp [hq], fun k hk => h.rest k (by omega), by have := h.lt; omega, hj⟩
theorem DInv.hold {q : ByteArray → Bool} {l m : List ByteArray} {i j : Nat} (h : DInv q l i j m) (hj : j < l.length) (hq : q l[j] = false) : DInv q l (i + 1) (j + 1) (m.set i l[j]) := by
  have hlt := h.lt
  have hlen := h.len
  refine ⟨by rw [List.length_set]; exact h.len, ?_, fun k hk => ?_, by omega, hj⟩
  · rw [List.take_succ_eq_append_getElem (by rw [List.length_set]; omega), List.take_set_of_le (Nat.le_refl _), h.ahead, List.take_succ_eq_append_getElem hj, List.filter_append]
    simp [hq]
  · rw [List.getElem?_set_ne (by omega)]
    exact h.rest k (by omega)
theorem DInv.done {q : ByteArray → Bool} {l m : List ByteArray} {i : Nat} (h : DInv q l i l.length m) : m.take i = l.filter (fun t => !q t) := by rw [h.ahead, List.take_length]

section
variable {w : World} {c1 c2 : Nat}

set_option maxRecDepth 20000 in
theorem deleteL_any (q : ByteArray → Bool) (ao : Option Addr) (cap g : Nat) (l : List ByteArray) (h : TRow w ao cap g l) (hl : l.length ≤ 140737488355328) (hC : Asks w c1 c2 (· = g) q l) :
    Calls Try.prog 29 #[.slice ao l.length cap, .func (.func 31) #[] #[.pointer (some ⟨c1, 0, none⟩), .pointer (some ⟨c2, 0, none⟩)]] w fun e w' =>
      e = .returned (.slice ao (l.filter (fun t => !q t)).length cap) ∧ TRow w' ao cap g (l.filter (fun t => !q t)) ∧ Fr (fun x => x = g ∧ 0 < cap) w w' := by
  have HX := hide (indexL_any q ao cap g l h hl (fun u hu => hC u (hu.mono (fun _ _ t => t.elim))))
  have H := hide h
  have HC' := hide hC
  have HL := hide hl
  clear h hC hl
  rcases ixS_cases q l 0 with ⟨e1, e2⟩ | ⟨k, hk, e1, e2⟩
  · rw [e1] at HX
    rw [e2]
    clear e1 e2
    go_enter Try.func29, Try.ntmps29
    go_wp2_with fail
    refine (unhide HX).mono ?_
    rintro e w1 ⟨rfl, hf⟩
    have HF := hide hf
    clear hf HX
    go_wp2
    go_ret
    exact ⟨rfl, (unhide H).keep (unhide HF), (unhide HF).mono (fun _ _ t => t.elim)⟩
  · rw [e1, Nat.zero_add] at HX
    have h0 : ao = some ⟨g, 0, none⟩ := ((unhide H).at hk).1
    subst h0
    have HD : Hid (DInv q l k (k + 1) l) := hide ⟨rfl, e2.symm, fun _ _ => rfl, by omega, hk⟩
    have HCAP : Hid (l.length ≤ cap) := hide (unhide H).len
    have HRES : Hid (∀ i m, DInv q l i l.length m → m.take i = l.filter (fun t => !q t)) := hide (fun i m h => h.done)
    clear e1 e2
    have hkb : (k : Int) ≤ 140737488355328 := by have := unhide HL; omega
    have hne : ((k : Int) == -1) = false := by rw [← Bool.not_eq_true, beq_iff_eq]; omega
    generalize l.filter (fun t => !q t) = F at *
    go_enter Try.func29, Try.ntmps29
    go_wp2_with fail
    refine (unhide HX).mono ?_
    rintro e w1 ⟨rfl, hf⟩
    have HF := hide hf
    have HT := hide ((unhide H).keep hf)
    clear hf HX H
    go_wp2
    go_loopw [5, 6, 7] (fun iv jv _ wr => ∃ (i j : Nat) (m : List ByteArray), iv = .int .i64 i ∧ jv = .int .i64 j ∧ j ≤ l.length ∧ Hid (DInv q l i j m ∧ TRow wr (some ⟨g, 0, none⟩) cap g m ∧ Fr (· = g) w wr)) (fun _ jv _ _ => l.length - (intOf jv).toNat)
    case atStart => exact ⟨k, k + 1, l, rfl, by go_num, hk, unhide HD, unhide HT, (unhide HF).mono (fun _ _ t => t.elim)⟩
    case round =>
      obtain ⟨i, j, m, rfl, rfl, hj, HI⟩ := hrel
      have hij := (unhide HI).1.lt
      have hlen := (unhide HI).1.len
      have hl9 := unhide HL
      have hcap := unhide HCAP
      by_cases hjl : j < l.length
      · have hml : m[j]'(by omega) = l[j] := by
          have := (unhide HI).1.rest j (Nat.le_refl _)
          rw [List.getElem?_eq_getElem hjl, List.getElem?_eq_getElem (by omega)] at this
          exact Option.some_inj.1 this
        have c0 : wr.cell? ⟨g, j, none⟩ = some (.string l[j]) := by rw [((unhide HI).2.1.at (show j < m.length by omega)).2, hml]
        have R := unhide HC' wr (unhide HI).2.2 l[j] (List.getElem_mem hjl)
        have HST : Hid (∀ b, q l[j] = b → (b = true → DInv q l i (j + 1) m) ∧ (b = false → DInv q l (i + 1) (j + 1) (m.set i l[j]))) := hide (fun b hb => ⟨fun e => (unhide HI).1.drop hjl (hb.trans e), fun e => (unhide HI).1.hold hjl (hb.trans e)⟩)
        generalize l[j] = x at *
        clear hml
        generalize hx : q x = bx at *
        have HS2 := hide (unhide HST bx rfl)
        clear HST hx
        have HIJ : Hid (i < m.length) := hide (by omega)
        have hjb : (j : Int) ≤ 140737488355328 := by omega
        clear hlen hcap
        cases bx with
        | true =>
          have HS3 := hide ((unhide HS2).1 rfl)
          clear HS2
          go_wp2_with fail
          refine R.mono ?_
          rintro e w2 ⟨rfl, hF⟩
          have HF2 := hide hF
          clear hF R
          go_wp2
          exact ⟨⟨i, j + 1, m, rfl, by go_num, by omega, unhide HS3, (unhide HI).2.1.keep (unhide HF2), (unhide HI).2.2.trans (unhide HF2) (fun _ _ t => t.elim)⟩, by simp [intOf]; omega⟩
        | false =>
          have HS3 := hide ((unhide HS2).2 rfl)
          clear HS2
          go_wp2_with fail
          refine R.mono ?_
          rintro e w2 ⟨rfl, hF⟩
          have HF2 := hide hF
          have HT2 := hide ((unhide HI).2.1.keep hF)
          clear hF R
          have d0 := ((unhide HT2).at (unhide HIJ)).2
          have d1 : w2.frozen? ⟨g, i, none⟩ = false := (KRow.room (unhide HT2) i (by have a := (unhide HT2).len; have b := unhide HIJ; omega)).2
          go_wp2
          exact ⟨⟨i + 1, j + 1, m.set i x, by go_num, by go_num, by omega, unhide HS3, (unhide HT2).set (unhide HIJ) x, ((unhide HI).2.2.trans (unhide HF2) (fun _ _ t => t.elim)).setCell (p := ⟨g, i, none⟩) (fun _ => rfl) _⟩, by simp [intOf]; omega⟩
      · obtain rfl : j = l.length := by omega
        have hcl : ∀ ty, (Builtin.clear_ #[48] ty #[.slice (some ⟨g, i, none⟩) (l.length - i) (cap - i)]).run Try.prog wr = .ok (.tuple #[]) (wr.setCells g i (List.replicate (l.length - i) (.string ⟨#[]⟩))) := fun ty =>
          Lib.run_clear_slice wr 48 9 ty (.string ⟨#[]⟩) Try.underlying48 Try.zeroValue9 rfl rfl g i _ _ (by omega) (fun t ht => (KRow.room (unhide HI).2.1 (i + t) (by omega)).1) (fun t ht => (KRow.room (unhide HI).2.1 (i + t) (by omega)).2)
        have hs1 := fun u => slice_fromT g i l.length cap (by omega) (by omega) u
        have hs2 := fun u => slice_uptoT g i l.length cap (by omega) (by omega) u
        have HE : Hid (F = m.take i) := hide (unhide HRES i m (unhide HI).1).symm
        have HTF := hide ((unhide HI).2.1.front (i := i) (by omega))
        rw [hlen] at HTF
        have hFl : F.length = i := by rw [unhide HE, List.length_take]; omega
        have HFL := hide hFl
        clear hlen hFl HC' hcap
        go_wp2
        go_ret
        refine ⟨by rw [unhide HFL]; rfl, ?_, ?_⟩
        · rw [unhide HE]; exact unhide HTF
        · exact (Fr.setCells (S := (· = g)) g (fun _ => rfl) _ _ _ (unhide HI).2.2).mono (fun _ _ t => ⟨t, by have := unhide HCAP; omega⟩)

set_option maxRecDepth 20000 in
theorem blisted_any {p b : Nat} {l : List Ac} (h : BM w p b l) (n : Int) : Calls Try.prog 16 #[.pointer (some ⟨p, 0, none⟩), .int .i64 n] w fun e w' =>
    ∃ ao cap g, e = .returned (.slice ao (listK l n).length cap) ∧ TRow w' ao cap g (listK l n) ∧ (0 < cap → w.heap.size ≤ g) ∧ Fr (fun _ => False) w w' := by
  have H := hide h
  clear h
  obtain ⟨W, hW⟩ : ∃ W, (w.alloc (.cells #[.pointer (some ⟨p, 0, none⟩)] 27)).alloc (.cells #[.int .i64 n] 3) = W := ⟨_, rfl⟩
  have HF : Hid (Fr (fun _ => False) w W) := hide (by rw [← hW]; exact ((Fr.refl _ _).alloc _).alloc _)
  have HB1 : Hid (Bx W w.heap.size #[.pointer (some ⟨p, 0, none⟩)] 27) := hide (by rw [← hW]; exact (Bx.new _ _ _).alloc _)
  have HB2 : Hid (Bx W (w.heap.size + 1) #[.int .i64 n] 3) := hide (by
    rw [← hW]
    have := Bx.new (w.alloc (.cells #[.pointer (some ⟨p, 0, none⟩)] 27)) #[.int .i64 n] 3
    rw [heap_alloc] at this
    exact this)
  have HCL : Hid (CLo W w.heap.size (w.heap.size + 1) p b l n) := hide ⟨unhide HB1, unhide HB2, (unhide H).keep (unhide HF)⟩
  have HZ : Hid (W.heap.size = w.heap.size + 2) := hide (by rw [← hW, heap_alloc, heap_alloc])
  have HTK := hide (btokens_any (unhide HCL).bm)
  have hc0 : W.cell? ⟨w.heap.size, 0, none⟩ = some (.pointer (some ⟨p, 0, none⟩)) := (unhide HB1).cell 0
  go_enter Try.func16, Try.ntmps16
  go_upto_region 1 with (fail)
  clear hW HB1 HB2
  obtain ⟨B, hB⟩ : ∃ B, w.heap.size = B := ⟨_, rfl⟩
  have HSZ := hide hB
  rw [hB] at hc0 HCL HZ
  rw [hB]
  clear hB
  go_wp2_with fail
  refine (unhide HTK).mono ?_
  rintro e w2 ⟨ao, cap, g, rfl, hT, hnew, hf⟩
  have HLE : Hid ((l.map (·.tok)).length = l.length) := hide (List.length_map ..)
  have HD := hide (deleteL_any (c1 := B) (c2 := B + 1) (fun t => decide (debtK l t ≤ n)) ao cap g (l.map (·.tok)) hT (by have := (unhide H).bk.few; rw [List.length_map]; omega) (fun u hu t ht => by
    have hcap : 0 < cap := by
      have h1 := hT.len
      have h2 := List.length_pos_of_mem ht
      omega
    have hg := hnew hcap
    rw [unhide HZ] at hg
    have hp := (unhide H).plt
    have hb := (unhide H).mlt
    have hz := unhide HSZ
    refine listed1_any (((unhide HCL).keep hf).frame hu (by omega) (by omega) (by omega) (by omega)) ?_
    obtain ⟨a, ha, rfl⟩ := List.mem_map.1 ht
    have h8 := (acc_in ((unhide H).bk.ok a ha)).1
    unfold isTok at h8
    rw [beq_iff_eq] at h8
    simp only [maxLen]
    omega))
  rw [unhide HLE] at HD
  have HK : Hid ((l.map (·.tok)).filter (fun t => !decide (debtK l t ≤ n)) = listK l n) := hide rfl
  rw [unhide HK] at HD
  have HW2 : Hid (Fr (fun _ => False) w w2 ∧ (0 < cap → w.heap.size ≤ g)) := hide ⟨(unhide HF).trans hf (fun _ _ t => t), fun q => by have a1 := hnew q; have a2 := unhide HZ; have a3 := unhide HSZ; omega⟩
  clear hT hnew hf HLE HK HTK hc0
  obtain ⟨L, hL⟩ : ∃ L, listK l n = L := ⟨_, rfl⟩
  have HKL := hide hL
  rw [hL] at HD
  clear hL
  go_wp2_with fail
  refine (unhide HD).mono ?_
  rintro e w3 ⟨rfl, hT3, hF3⟩
  have H3 : Hid (TRow w3 ao cap g L ∧ Fr (fun _ => False) w w3) := hide ⟨hT3, ?_⟩
  · clear hT3 hF3 HD
    go_wp2
    go_ret
    rw [unhide HKL]
    exact ⟨ao, cap, g, rfl, (unhide H3).1, (unhide HW2).2, (unhide H3).2⟩
  · exact (unhide HW2).1.trans hF3 (fun i hi t => by have := (unhide HW2).2 t.2; omega)

end
end Go.Proofs.Ytlhgfnpialndaaa

