import Derived.Test.YtlhgfnpialndaaaDB3
/- slices.IndexFunc and DeleteFunc over a book's tokens; Listed. -/
namespace Go.Proofs.Ytlhgfnpialndaaa
open Go.RowKit Go.Maps

/-- What Listed's closure stands on: a box that names the book, a box with the threshold. -/
structure CLo (w : World) (c1 c2 p b : Nat) (l : List Ac) (n : Int) : Prop where
  b1 : Bx w c1 #[.pointer (some ⟨p, 0, none⟩)] 27
  b2 : Bx w c2 #[.int .i64 n] 3
  bm : BM w p b l
theorem CLo.frame {S : Nat → Prop} {w w' : World} {c1 c2 p b : Nat} {l : List Ac} {n : Int} (h : CLo w c1 c2 p b l n) (k : Fr S w w') (h1 : ¬ S c1) (h2 : ¬ S c2) (h3 : ¬ S p) (h4 : ¬ S b) : CLo w' c1 c2 p b l n := ⟨h.b1.frame k h1, h.b2.frame k h2, h.bm.frame k h3 h4⟩
theorem CLo.keep {w w' : World} {c1 c2 p b : Nat} {l : List Ac} {n : Int} (h : CLo w c1 c2 p b l n) (k : Fr (fun _ => False) w w') : CLo w' c1 c2 p b l n := h.frame k (fun t => t) (fun t => t) (fun t => t) (fun t => t)

section
variable {w : World} {c1 c2 p b : Nat} {l : List Ac} {n : Int}

set_option maxRecDepth 20000 in
theorem listed1_any (h : CLo w c1 c2 p b l n) {t : ByteArray} (ht : t.size ≤ maxLen) : Calls Try.prog 31 #[.string t, .pointer (some ⟨c1, 0, none⟩), .pointer (some ⟨c2, 0, none⟩)] w fun e w' =>
    e = .returned (.bool (decide (debtK l t ≤ n))) ∧ Fr (fun _ => False) w w' := by
  have RD : Hid (∀ u, Fr (fun _ => False) w u → Calls Try.prog 15 #[.pointer (some ⟨p, 0, none⟩), .string t] u fun e w' => e = .returned (.int .i64 (debtK l t)) ∧ Fr (fun _ => False) u w') := hide (fun u hu => bdebt_any (h.bm.keep hu) ht)
  have HCB : Hid (∀ u, Fr (fun _ => False) w u → u.cell? ⟨c1, 0, none⟩ = some (.pointer (some ⟨p, 0, none⟩)) ∧ u.cell? ⟨c2, 0, none⟩ = some (.int .i64 n)) := hide (fun u hu => ⟨(h.b1.keep hu).cell 0, (h.b2.keep hu).cell 0⟩)
  generalize debtK l t = D at *
  clear h ht
  go_enter Try.func31, Try.ntmps31
  go_wp2_with fail
  go_region_held3 (fun u => u.cell? ⟨c1, 0, none⟩ = some (.pointer (some ⟨p, 0, none⟩)) ∧ u.cell? ⟨c2, 0, none⟩ = some (.int .i64 n))
    ((refine unhide HCB _ ?_; repeat (first | (with_reducible exact Fr.refl _ _) | (with_reducible refine Fr.drew ?_) | (with_reducible refine Fr.trans ?_ (unhide HA) (fun _ _ t => t)))))
    ((go_at_call 15; refine (unhide RD _ (by repeat (first | (with_reducible exact Fr.refl _ _) | (with_reducible refine Fr.drew ?_) | (with_reducible refine Fr.trans ?_ (unhide HA) (fun _ _ t => t))))).mono ?_; rintro e w5 ⟨rfl, hA⟩; have HA := hide hA; clear hA))
  have hF : Fr (fun _ => False) w w5 := by repeat (first | (with_reducible exact Fr.refl _ _) | (with_reducible refine Fr.drew ?_) | (with_reducible refine Fr.trans ?_ (unhide HA) (fun _ _ t => t)))
  have HF := hide hF
  clear hF HA RD HCB
  go_wp2
  go_ret
  exact ⟨rfl, by first | exact unhide HF | exact (unhide HF).drew⟩

/-- What closures answer as long as only block g turns. -/
def Asks (w : World) (c1 c2 : Nat) (S : Nat → Prop) (q : ByteArray → Bool) (l : List ByteArray) : Prop :=
  ∀ u, Fr S w u → ∀ t ∈ l, Calls Try.prog 31 #[.string t, .pointer (some ⟨c1, 0, none⟩), .pointer (some ⟨c2, 0, none⟩)] u fun e u' => e = .returned (.bool (q t)) ∧ Fr (fun _ => False) u u'

set_option maxRecDepth 20000 in
theorem indexL_any (q : ByteArray → Bool) (ao : Option Addr) (cap g : Nat) (l : List ByteArray) (h : TRow w ao cap g l) (hl : l.length ≤ 140737488355328) (hC : Asks w c1 c2 (fun _ => False) q l) :
    Calls Try.prog 36 #[.slice ao l.length cap, .func (.func 31) #[] #[.pointer (some ⟨c1, 0, none⟩), .pointer (some ⟨c2, 0, none⟩)]] w fun e w' => e = .returned (.int .i64 (ixS q l 0)) ∧ Fr (fun _ => False) w w' := by
  have H := hide h
  have HC' := hide hC
  clear h hC
  go_enter Try.func36, Try.ntmps36
  go_wp2
  go_loopw [5, 8] (fun _ iv wr => ∃ (i : Nat), i ≤ l.length ∧ iv = .int .i64 i ∧ Hid (Fr (fun _ => False) w wr ∧ ixS q (l.drop i) i = ixS q l 0)) (fun _ iv _ => l.length - (intOf iv).toNat)
  case atStart => exact ⟨0, Nat.zero_le _, rfl, Fr.refl _ _, by simp⟩
  case round =>
    obtain ⟨i, hi, rfl, HI⟩ := hrel
    by_cases hil : i < l.length
    · obtain ⟨rfl, c0⟩ := ((unhide H).keep (unhide HI).1).at hil
      have ht := (unhide HI).2
      rw [List.drop_eq_getElem_cons hil, ixS] at ht
      have R := unhide HC' wr (unhide HI).1 l[i] (List.getElem_mem hil)
      generalize l[i] = x at *
      have HT := hide ht
      clear ht
      cases hx : q x with
      | true =>
        rw [hx] at R HT
        clear hx
        have HT' : Hid (ixS q l 0 = (i : Int)) := hide (by have := unhide HT; simpa using this.symm)
        clear HT
        go_wp2_with fail
        refine R.mono ?_
        rintro e w1 ⟨rfl, hF⟩
        have HF := hide ((unhide HI).1.trans hF (fun _ _ t => t))
        clear hF R
        go_wp2
        go_ret
        exact ⟨by rw [unhide HT']; rfl, unhide HF⟩
      | false =>
        rw [hx] at R HT
        clear hx
        have HT' : Hid (ixS q (l.drop (i + 1)) (i + 1) = ixS q l 0) := hide (by have := unhide HT; simpa using this)
        clear HT
        go_wp2_with fail
        refine R.mono ?_
        rintro e w1 ⟨rfl, hF⟩
        have HF := hide ((unhide HI).1.trans hF (fun _ _ t => t))
        clear hF R
        go_wp2
        exact ⟨⟨i + 1, by omega, by go_num, unhide HF, unhide HT'⟩, by simp [intOf]; omega⟩
    · obtain rfl : i = l.length := by omega
      have ht := (unhide HI).2
      rw [List.drop_length] at ht
      have HN := hide ht
      have HF := hide (unhide HI).1
      clear ht HI H
      go_wp2
      go_ret
      exact ⟨by rw [← unhide HN]; rfl, unhide HF⟩
end
end Go.Proofs.Ytlhgfnpialndaaa

