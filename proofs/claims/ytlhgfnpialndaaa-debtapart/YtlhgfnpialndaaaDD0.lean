import Derived.Test.YtlhgfnpialndaaaDC0
/- change: Set or Pay of a token; tokens don't see each other. -/
namespace Go.Proofs.Ytlhgfnpialndaaa
open Go.RowKit Go.Maps

def chK (t : ByteArray) (l : List Ac) (o : Opd) : List Ac := if bits .and .i64 o.act 1 = 0 then (setK l t o.n).1 else (payK l t o.n).1
theorem chK_bk {l : List Ac} (h : Bk l) (t : ByteArray) (o : Opd) : Bk (chK t l o) := by
  unfold chK
  split
  · exact setK_bk h t o.n
  · exact payK_bk h t o.n
theorem setK_other {l : List Ac} (h : Bk l) {t s : ByteArray} (ht : t ≠ s) (n : Int) : atK (setK l t n).1 s = atK l s := by
  unfold setK
  split
  · rfl
  · split
    · rfl
    · show atK (putK l _) s = _
      rw [putK_at h.rk, eqS_not (show (⟨t, n, min (getK l t).paid n⟩ : Ac).tok ≠ s from ht)]
      rfl
theorem payK_other {l : List Ac} (h : Bk l) {t s : ByteArray} (ht : t ≠ s) (n : Int) : atK (payK l t n).1 s = atK l s := by
  unfold payK
  split
  · rfl
  · show atK (putK l _) s = _
    rw [putK_at h.rk, eqS_not (show (⟨t, (getK l t).charged, (getK l t).paid + n⟩ : Ac).tok ≠ s from ht)]
    rfl
theorem setK_same {l m : List Ac} (hl : Bk l) (hm : Bk m) {t : ByteArray} (h : atK l t = atK m t) (h1 : l.length < 1000) (h2 : m.length < 1000) (n : Int) : atK (setK l t n).1 t = atK (setK m t n).1 t := by
  have hg : getK l t = getK m t := by unfold getK; rw [h]
  unfold setK
  split
  · exact h
  · rw [decide_eq_false (show ¬ 1000 ≤ l.length by omega), decide_eq_false (show ¬ 1000 ≤ m.length by omega), Bool.and_false, Bool.and_false, if_neg (by simp), if_neg (by simp), hg]
    show atK (putK l _) t = atK (putK m _) t
    rw [putK_at hl.rk, putK_at hm.rk, h]
theorem payK_same {l m : List Ac} (hl : Bk l) (hm : Bk m) {t : ByteArray} (h : atK l t = atK m t) (n : Int) : atK (payK l t n).1 t = atK (payK m t n).1 t := by
  have hg : getK l t = getK m t := by unfold getK; rw [h]
  unfold payK
  rw [hg]
  split
  · exact h
  · show atK (putK l _) t = atK (putK m _) t
    rw [putK_at hl.rk, putK_at hm.rk, h]
theorem putK_le {l : List Ac} (h : Rk l) (x : Ac) : (putK l x).length ≤ l.length + 1 := by rw [putK_len h]; split <;> omega
theorem chK_len {l : List Ac} (h : Bk l) (t : ByteArray) (o : Opd) : (chK t l o).length ≤ l.length + 1 := by
  unfold chK
  split
  · unfold setK
    split
    · exact Nat.le_succ _
    · split
      · exact Nat.le_succ _
      · exact putK_le h.rk _
  · unfold payK
    split
    · exact Nat.le_succ _
    · exact putK_le h.rk _
theorem chK_other {l : List Ac} (h : Bk l) {t s : ByteArray} (ht : t ≠ s) (o : Opd) : atK (chK t l o) s = atK l s := by
  unfold chK
  split
  · exact setK_other h ht _
  · exact payK_other h ht _
theorem chK_same {l m : List Ac} (hl : Bk l) (hm : Bk m) {t : ByteArray} (h : atK l t = atK m t) (h1 : l.length < 1000) (h2 : m.length < 1000) (o : Opd) : atK (chK t l o) t = atK (chK t m o) t := by
  unfold chK
  split
  · exact setK_same hl hm h h1 h2 _
  · exact payK_same hl hm h _

def runK (t : ByteArray) (l : List Ac) (ops : List Opd) : List Ac := ops.foldl (chK t) l
theorem runK_bk {l : List Ac} (h : Bk l) (t : ByteArray) (ops : List Opd) : Bk (runK t l ops) := by
  induction ops generalizing l with
  | nil => exact h
  | cons o r ih => exact ih (chK_bk h t o)
theorem runK_len {l : List Ac} (h : Bk l) (t : ByteArray) (ops : List Opd) : (runK t l ops).length ≤ l.length + ops.length := by
  induction ops generalizing l with
  | nil => exact Nat.le_refl _
  | cons o r ih =>
    have h1 := ih (chK_bk h t o)
    have h2 := chK_len h t o
    show (runK t (chK t l o) r).length ≤ _
    rw [List.length_cons]
    omega
theorem runK_other {l : List Ac} (h : Bk l) {t s : ByteArray} (ht : t ≠ s) (ops : List Opd) : atK (runK t l ops) s = atK l s := by
  induction ops generalizing l with
  | nil => rfl
  | cons o r ih => exact (ih (chK_bk h t o)).trans (chK_other h ht o)
theorem runK_same {l m : List Ac} (hl : Bk l) (hm : Bk m) {t : ByteArray} (h : atK l t = atK m t) (ops : List Opd) (h1 : l.length + ops.length < 1000) (h2 : m.length + ops.length < 1000) : atK (runK t l ops) t = atK (runK t m ops) t := by
  induction ops generalizing l m with
  | nil => exact h
  | cons o r ih =>
    rw [List.length_cons] at h1 h2
    have a1 := chK_len hl t o
    have a2 := chK_len hm t o
    exact ih (chK_bk hl t o) (chK_bk hm t o) (chK_same hl hm h (by omega) (by omega) o) (by omega) (by omega)
/-- One token's calls, then another one's: in either order the same. -/
theorem runK_apart {a b : ByteArray} (hab : a ≠ b) (x y : List Opd) (hx : x.length ≤ 60) (hy : y.length ≤ 60) : runK b (runK a [] x) y = runK a (runK b [] y) x := by
  have b1 := runK_bk Bk.nil a x
  have b2 := runK_bk Bk.nil b y
  have l1 := runK_len Bk.nil a x
  have l2 := runK_len Bk.nil b y
  rw [List.length_nil] at l1 l2
  refine (runK_bk b1 b y).rk.ext (runK_bk b2 a x).rk fun t => ?_
  by_cases h1 : t = a
  · subst h1
    rw [runK_other b1 (fun e => hab e.symm) y]
    refine runK_same Bk.nil b2 ?_ x (by rw [List.length_nil]; omega) (by omega)
    rw [runK_other Bk.nil (fun e => hab e.symm) y]
  · by_cases h2 : t = b
    · subst h2
      rw [runK_other b2 hab x]
      refine (runK_same Bk.nil b1 ?_ y (by rw [List.length_nil]; omega) (by omega)).symm
      rw [runK_other Bk.nil hab x]
    · rw [runK_other b1 (fun e => h2 e.symm) y, runK_other Bk.nil (fun e => h1 e.symm) x, runK_other b2 (fun e => h1 e.symm) x, runK_other Bk.nil (fun e => h2 e.symm) y]
theorem runK_step (t : ByteArray) (l : List Ac) (ops : List Opd) {i : Nat} (hi : i < ops.length) : runK t l (ops.take (i + 1)) = chK t (runK t l (ops.take i)) ops[i] := by
  unfold runK
  rw [List.take_succ_eq_append_getElem hi, List.foldl_append]
  rfl

set_option maxRecDepth 20000 in
theorem change_any {w : World} {p b : Nat} {l : List Ac} (h : BM w p b l) {t : ByteArray} (ht : t.size ≤ maxLen) (o : Opd) : Calls Try.prog 17 #[.pointer (some ⟨p, 0, none⟩), .string t, .agg #[.int .i64 o.act, .int .i64 o.n, .string o.tok]] w fun e w' =>
    (∃ v : Int, e = .returned (.int .i64 v)) ∧ BM w' p b (chK t l o) ∧ Fr (fun k => k = b) w w' := by
  obtain ⟨a, n, ot⟩ := o
  have hs : Hid (chK t l ⟨a, n, ot⟩ = if bits .and .i64 a 1 = 0 then (setK l t n).1 else (payK l t n).1) := hide rfl
  have HS := hide (bset_any (h.keep ((Fr.refl (fun _ => False) w).alloc (.cells #[.int .i64 a, .int .i64 n, .string ot] 39))) ht n)
  have HP := hide (bpay_any (h.keep ((Fr.refl (fun _ => False) w).alloc (.cells #[.int .i64 a, .int .i64 n, .string ot] 39))) ht n)
  have HLT : Hid (b < w.heap.size) := hide h.mlt
  have HA : Hid (∀ w2, Fr (fun k => k = b) (w.alloc (.cells #[.int .i64 a, .int .i64 n, .string ot] 39)) w2 → Fr (fun k => k = b) w w2) := hide (fun w2 hw => ((Fr.refl (fun k => k = b) w).alloc _).trans hw (fun _ _ t => t))
  clear h ht
  simp only
  go_enter Try.func17, Try.ntmps17
  by_cases hz : bits .and .i64 a 1 = 0
  · have HC : Hid (chK t l ⟨a, n, ot⟩ = (setK l t n).1) := hide (by rw [unhide hs, if_pos hz])
    clear hs HP
    go_wp2_with fail
    refine (unhide HS).mono ?_
    rintro e w2 ⟨rfl, hbm, hf⟩
    have HB := hide hbm
    have HF := hide (unhide HA _ hf)
    clear hbm hf HS HA
    go_wp2
    go_ret
    rw [unhide HC]
    exact ⟨⟨_, rfl⟩, unhide HB, unhide HF⟩
  · have HC : Hid (chK t l ⟨a, n, ot⟩ = (payK l t n).1) := hide (by rw [unhide hs, if_neg hz])
    have hz2 : ((bits .and .i64 a 1 : Int) == 0) = false := by rw [← Bool.not_eq_true, beq_iff_eq]; exact hz
    clear hs HS hz
    go_wp2_with fail
    refine (unhide HP).mono ?_
    rintro e w2 ⟨rfl, hbm, hf⟩
    have HB := hide hbm
    have HF := hide (unhide HA _ hf)
    clear hbm hf HP HA
    go_wp2
    go_ret
    rw [unhide HC]
    exact ⟨⟨_, rfl⟩, unhide HB, unhide HF⟩
end Go.Proofs.Ytlhgfnpialndaaa

