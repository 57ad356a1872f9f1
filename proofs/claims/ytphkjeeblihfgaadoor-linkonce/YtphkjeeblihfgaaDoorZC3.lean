import Derived.Test.YtphkjeeblihfgaaDoorZC1
/- LinkOnce: what holds of the items, the frames, what was taken and let go. Mathematics. -/
namespace Go.Proofs.YtphkjeeblihfgaaDoor
open Go.RowKit

/-- Up to a number all were taken. -/
def Tkn (tk : List Bool) (a : Int) : Prop := ∀ k : Nat, 1 ≤ k → (k : Int) ≤ a → tk[k]? = some true
theorem Tkn.mono {tk : List Bool} {a b : Int} (h : Tkn tk a) (hb : b ≤ a) : Tkn tk b := fun k h1 h2 => h k h1 (by omega)
theorem Tkn.set {tk : List Bool} {a : Int} (h : Tkn tk a) (i : Nat) : Tkn (tk.set i true) a := fun k h1 h2 => by
  have := h k h1 h2
  rw [List.getElem?_set]
  split
  · rename_i e
    subst e
    rw [if_pos (List.getElem?_eq_some_iff.1 this).1]
  · exact this
theorem Tkn.snoc {tk : List Bool} {a : Int} (h : Tkn tk a) (v : Bool) : Tkn (tk ++ [v]) a := fun k h1 h2 => by
  have := h k h1 h2
  rw [List.getElem?_append_left (List.getElem?_eq_some_iff.1 this).1]
  exact this

/-- A frame that was sent: of items that there are. -/
structure SentF (its : List (List UInt8)) (g : Nat) (f : Fm) : Prop where
  kind : f.kind = 1
  may : f.may = true
  base : 1 ≤ f.base ∧ f.base ≤ (g : Int) + 1
  tells : ∃ k : Nat, f.seq = (k : Int) + 1 ∧ k + f.items.length ≤ its.length ∧ f.items = (its.drop k).take f.items.length
theorem SentF.more {its : List (List UInt8)} {g : Nat} {f : Fm} (h : SentF its g f) (b : List UInt8) : SentF (its ++ [b]) g f := by
  obtain ⟨k, h1, h2, h3⟩ := h.tells
  refine ⟨h.kind, h.may, h.base, k, h1, by simp; omega, ?_⟩
  rw [List.drop_append_of_le_length (by omega), List.take_append_of_le_length (by rw [List.length_drop]; omega)]
  exact h3
theorem SentF.up {its : List (List UInt8)} {g g' : Nat} {f : Fm} (h : SentF its g f) (hg : g ≤ g') : SentF its g' f := ⟨h.kind, h.may, ⟨h.base.1, by have := h.base.2; omega⟩, h.tells⟩

structure LI (its : List (List UInt8)) (fs : List Fm) (aks : List Int) (tk : List Bool) (g l : Nat) (n : Int) : Prop where
  tkl : tk.length = its.length + 1
  few : its.length ≤ 300
  len : ∀ b ∈ its, b.length ≤ 256
  fr : ∀ f ∈ fs, SentF its g f
  nx : 0 ≤ n ∧ n ≤ (its.length : Int) + 1 ∧ Tkn tk (n - 1)
  ls : (l : Int) < n ∨ (n = 0 ∧ l = 0)
  lg : 0 < l → n = (l : Int) + 1 ∨ n - 1 ≤ (g : Int)
  ak : ∀ a ∈ aks, 0 ≤ a ∧ a ≤ (its.length : Int) ∧ Tkn tk a
  gn : g ≤ its.length ∧ Tkn tk (g : Int)

variable {its : List (List UInt8)} {fs : List Fm} {aks : List Int} {tk : List Bool} {g l : Nat} {n : Int}

theorem LI.begin : LI [] [] [] [false] 0 0 0 :=
  ⟨rfl, by simp, fun b h => by (cases h), fun f h => by (cases h), ⟨by omega, by simp, fun k h1 h2 => by omega⟩, .inr ⟨rfl, rfl⟩, fun h => by omega, fun a h => by (cases h), ⟨by simp, fun k h1 h2 => by omega⟩⟩
/-- Frames of a tick. -/
theorem LI.tick (h : LI its fs aks tk g l n) (s : Snd) (hb : s.bat ≤ 8) (hok : FOk (baseOf (numI ((g : Int) + 1) (its.drop g))) s.bat 64 (tickF s (numI ((g : Int) + 1) (its.drop g))).2) : LI its (fs ++ (tickF s (numI ((g : Int) + 1) (its.drop g))).2) aks tk g l n := by
  have hg := h.gn.1
  have hfew := h.few
  refine ⟨h.tkl, h.few, h.len, fun f hf => ?_, h.nx, h.ls, h.lg, h.ak, h.gn⟩
  rw [List.mem_append] at hf
  rcases hf with hf | hf
  · exact h.fr f hf
  · obtain ⟨k, k1, k2, k3⟩ := tick_tells s ((g : Int) + 1) (its.drop g) (by omega) (by rw [List.length_drop]; omega) (fun b hb => h.len b (List.mem_of_mem_drop hb)) f hf
    obtain ⟨a1, a2, a3, a4, a5, a6⟩ := hok.each f hf
    rw [List.length_drop] at k2
    have hbase : f.base = (g : Int) + 1 := by
      rw [a2]
      have hne : 0 < (its.drop g).length := by rw [List.length_drop]; omega
      generalize its.drop g = d at hne ⊢
      cases d with
      | nil => simp at hne
      | cons b r => rfl
    refine ⟨a1, ?_, ⟨by omega, by omega⟩, g + k, by omega, by omega, by rw [← List.drop_drop]; exact k3⟩
    unfold Fm.may
    rw [if_pos a1, a3]
    unfold Fm.mayItems
    simp only [List.length_nil, decide_true, Bool.true_and, Bool.and_eq_true, decide_eq_true_eq, Bool.not_eq_true', List.any_eq_false]
    refine ⟨⟨⟨by omega, by omega⟩, ⟨by omega, by omega⟩, by omega⟩, fun b hb => ?_⟩
    have := a6 b hb
    simp only [longB, decide_eq_true_eq]
    omega
theorem LI.item (h : LI its fs aks tk g l n) (hf : its.length < 300) (b : List UInt8) (hb : b.length ≤ 256) : LI (its ++ [b]) fs aks (tk ++ [false]) g l n := by
  refine ⟨by simp [h.tkl], by simp; omega, fun x hx => ?_, fun f hf => (h.fr f hf).more b, ⟨h.nx.1, by have := h.nx.2.1; simp; omega, h.nx.2.2.snoc _⟩, h.ls, h.lg, fun a ha => ⟨(h.ak a ha).1, by have := (h.ak a ha).2.1; simp; omega, (h.ak a ha).2.2.snoc _⟩, ⟨by have := h.gn.1; simp; omega, h.gn.2.snoc _⟩⟩
  rw [List.mem_append, List.mem_singleton] at hx
  rcases hx with hx | rfl
  · exact h.len x hx
  · exact hb
/-- A frame arrives. -/
theorem LI.got (h : LI its fs aks tk g l n) {f : Fm} (hf : f ∈ fs) : LI its fs aks tk g l (max n f.base) := by
  have hs := h.fr f hf
  have hb := hs.base
  have hn := h.nx
  have hg := h.gn
  refine ⟨h.tkl, h.few, h.len, h.fr, ⟨by omega, by omega, ?_⟩, ?_, fun hl => ?_, h.ak, h.gn⟩
  · intro k h1 h2
    by_cases hk : (k : Int) ≤ n - 1
    · exact hn.2.2 k h1 hk
    · exact hg.2 k h1 (by omega)
  · rcases h.ls with t | ⟨t1, t2⟩
    · exact .inl (by omega)
    · exact .inl (by omega)
  · rcases h.lg hl with t | t
    · by_cases hm : f.base ≤ n
      · exact .inl (by omega)
      · exact .inr (by omega)
    · exact .inr (by omega)
/-- An item is taken. -/
theorem LI.take (h : LI its fs aks tk g l n) (h0 : 1 ≤ n) (hN : n ≤ (its.length : Int)) : LI its fs aks (tk.set n.toNat true) g n.toNat (n + 1) := by
  have ht := h.tkl
  refine ⟨by simp [ht], h.few, h.len, h.fr, ⟨by omega, by omega, fun k h1 h2 => ?_⟩, .inl (by omega), fun _ => .inl (by omega), fun a ha => ⟨(h.ak a ha).1, (h.ak a ha).2.1, (h.ak a ha).2.2.set _⟩, ⟨h.gn.1, h.gn.2.set _⟩⟩
  by_cases hk : (k : Int) ≤ n - 1
  · exact (h.nx.2.2.set _) k h1 hk
  · have : k = n.toNat := by omega
    subst this
    rw [List.getElem?_set, if_pos rfl, if_pos (by omega)]
theorem LI.ack (h : LI its fs aks tk g l n) (h0 : 0 < n) : LI its fs (aks ++ [n - 1]) tk g l n := by
  refine ⟨h.tkl, h.few, h.len, h.fr, h.nx, h.ls, h.lg, fun a ha => ?_, h.gn⟩
  rw [List.mem_append, List.mem_singleton] at ha
  rcases ha with ha | rfl
  · exact h.ak a ha
  · have := h.nx
    exact ⟨by omega, by omega, this.2.2⟩
theorem LI.gone (h : LI its fs aks tk g l n) {a : Int} (ha : a ∈ aks) : LI its fs aks tk (max (g : Int) a).toNat l n := by
  obtain ⟨a1, a2, a3⟩ := h.ak a ha
  have hg := h.gn
  refine ⟨h.tkl, h.few, h.len, fun f hf => (h.fr f hf).up (by omega), h.nx, h.ls, fun hl => ?_, h.ak, ⟨by omega, fun k h1 h2 => ?_⟩⟩
  · rcases h.lg hl with t | t
    · exact .inl t
    · exact .inr (by omega)
  · by_cases hk : (k : Int) ≤ (g : Int)
    · exact hg.2 k h1 hk
    · exact a3 k h1 (by omega)
theorem LI.anew (h : LI its fs aks tk g l n) : LI its fs aks tk g 0 0 :=
  ⟨h.tkl, h.few, h.len, h.fr, ⟨by omega, by omega, fun k h1 h2 => by omega⟩, .inr ⟨rfl, rfl⟩, fun hl => by omega, h.ak, h.gn⟩

/-- What comes next of a frame that was sent. -/
theorem LI.next (h : LI its fs aks tk g l n) {f : Fm} (hf : f ∈ fs) (hn : f.base ≤ n) (hs : ¬ n < f.seq) : gotL n f.seq f.items = numI n (f.items.drop (n - f.seq).toNat) ∧ ∀ (j : Nat) (hj : j < (f.items.drop (n - f.seq).toNat).length), n + j ≤ (its.length : Int) ∧ 1 ≤ n + j ∧ its[(n + j - 1).toNat]? = some (f.items.drop (n - f.seq).toNat)[j] := by
  have hb := (h.fr f hf).base
  obtain ⟨k, k1, k2, k3⟩ := (h.fr f hf).tells
  refine ⟨gotL_from n f.seq f.items (by omega), fun j hj => ?_⟩
  rw [List.length_drop] at hj
  refine ⟨by omega, by omega, ?_⟩
  have e1 : (f.items.drop (n - f.seq).toNat)[j]'(by rw [List.length_drop]; exact hj) = f.items[(n - f.seq).toNat + j]'(by omega) := by rw [List.getElem_drop]
  rw [e1]
  have e2 : f.items[(n - f.seq).toNat + j]? = its[k + ((n - f.seq).toNat + j)]? := by
    rw [k3, List.getElem?_take, if_pos (by omega), List.getElem?_drop]
  rw [List.getElem?_eq_getElem (by omega)] at e2
  rw [e2]
  congr 1
  omega

end Go.Proofs.YtphkjeeblihfgaaDoor

