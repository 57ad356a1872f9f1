import Derived.Test.YtjkghgcdkfkekaaGreatDoorD0
import Derived.Test.YtjkghgcdkfkekaaGreatDoorSS0
/- The mathematics of a log's stream: where frames begin, what stands in which sector, and that what is found of it, whichever of its sectors are there in whichever state, is a beginning of its records. No program is named here. -/
namespace Go.Proofs.YtjkghgcdkfkekaaGreatDoor

abbrev Bs := List UInt8

def zeros (n : Nat) : Bs := List.replicate n 0
theorem zeros_length (n : Nat) : (zeros n).length = n := by simp [zeros]

/-- The first place, from that one on, at which a frame begins. -/
def bgn (p : Nat) : Nat := if 504 - p % 504 < 12 then p + (504 - p % 504) else p

theorem bgn_le (p : Nat) : p ≤ bgn p := by unfold bgn; split <;> omega
theorem bgn_lt (p : Nat) : bgn p < p + 12 := by unfold bgn; split <;> omega
theorem bgn_head (p : Nat) : bgn p % 504 ≤ 492 := by unfold bgn; split <;> omega
theorem bgn_zero : bgn 0 = 0 := rfl
/-- Nothing but the sector of p's last byte lies between p and where the next frame begins. -/
theorem bgn_sector (p i : Nat) (h : 504 * i < bgn p) : 504 * i < p ∨ p = 0 := by unfold bgn at h; split at h <;> omega

/-- What stands ahead of a record in its frame. -/
def fh (b : Bs) (n : Nat) : Bs := digs b.length 4 ++ digs n 4 ++ digs (moreF (sumF (digs b.length 4 ++ digs n 4)) b) 4
theorem fh_length (b : Bs) (n : Nat) : (fh b n).length = 12 := by simp [fh, digs_length]

/-- A record's frame. -/
def frm (b : Bs) (n : Nat) : Bs := fh b n ++ b
theorem frm_length (b : Bs) (n : Nat) : (frm b n).length = 12 + b.length := by simp [frm, fh_length]

/-- A stream with one frame more. -/
def addR (S : Bs) (b : Bs) (n : Nat) : Bs := S ++ zeros (bgn S.length - S.length) ++ frm b n

theorem addR_length (S b : Bs) (n : Nat) : (addR S b n).length = bgn S.length + 12 + b.length := by
  have := bgn_le S.length
  simp [addR, zeros, frm_length]; omega

def strmA : List Bs → Nat → Bs → Bs
  | [], _, S => S
  | b :: r, n, S => strmA r (n + 1) (addR S b n)

/-- The stream of records. -/
def strm (l : List Bs) : Bs := strmA l 0 []

theorem strmA_append (l m : List Bs) (n : Nat) (S : Bs) : strmA (l ++ m) n S = strmA m (n + l.length) (strmA l n S) := by
  induction l generalizing n S with
  | nil => simp [strmA]
  | cons b r ih => simp [strmA, ih]; congr 1; omega

theorem strm_nil : strm [] = [] := rfl
theorem strm_snoc (l : List Bs) (b : Bs) : strm (l ++ [b]) = addR (strm l) b l.length := by
  rw [strm, strmA_append]; simp [strmA, strm]

theorem strm_take (l : List Bs) (k : Nat) (h : k < l.length) : strm (l.take (k + 1)) = addR (strm (l.take k)) l[k] k := by
  rw [List.take_succ_eq_append_getElem h, strm_snoc, List.length_take, Nat.min_eq_left (by omega)]

theorem strmA_prefix (l : List Bs) : ∀ (n : Nat) (S : Bs), S <+: strmA l n S := by
  induction l with
  | nil => intro n S; exact List.prefix_refl S
  | cons b r ih =>
    intro n S
    refine List.IsPrefix.trans ?_ (ih (n + 1) (addR S b n))
    exact ⟨zeros (bgn S.length - S.length) ++ frm b n, by simp [addR]⟩

theorem strm_prefix (l m : List Bs) : strm l <+: strm (l ++ m) := by
  rw [strm, strm, strmA_append]; exact strmA_prefix _ _ _

theorem strm_take_prefix (l : List Bs) {j k : Nat} (h : j ≤ k) : strm (l.take j) <+: strm (l.take k) := by
  have e : l.take k = l.take j ++ (l.take k).drop j := by
    conv => lhs; rw [← List.take_append_drop j (l.take k)]
    rw [List.take_take, Nat.min_eq_left h]
  rw [e]; exact strm_prefix _ _

theorem strm_take_len (l : List Bs) {j k : Nat} (h : j ≤ k) : (strm (l.take j)).length ≤ (strm (l.take k)).length := (strm_take_prefix l h).length_le

/-- Where the frame k begins. -/
def pos (l : List Bs) (k : Nat) : Nat := bgn (strm (l.take k)).length

theorem pos_end (l : List Bs) (k : Nat) (h : k < l.length) : (strm (l.take (k + 1))).length = pos l k + 12 + l[k].length := by
  rw [strm_take l k h, addR_length]; rfl

theorem pos_ge (l : List Bs) (k : Nat) : (strm (l.take k)).length ≤ pos l k := bgn_le _

/-- A byte of the frame k stands in the sector i. -/
def tch (l : List Bs) (k i : Nat) : Prop := k < l.length ∧ pos l k < 504 * (i + 1) ∧ 504 * i < (strm (l.take (k + 1))).length

theorem tch_append {l : List Bs} {k i : Nat} (m : List Bs) (h : tch l k i) : tch (l ++ m) k i := by
  obtain ⟨h1, h2, h3⟩ := h
  refine ⟨by simp; omega, ?_, ?_⟩
  · rw [pos, List.take_append_of_le_length (by omega)]; exact h2
  · rw [List.take_append_of_le_length (by omega)]; exact h3

theorem tch_of_append {l m : List Bs} {k i : Nat} (hk : k < l.length) (h : tch (l ++ m) k i) : tch l k i := by
  obtain ⟨_, h2, h3⟩ := h
  rw [pos, List.take_append_of_le_length (by omega)] at h2
  rw [List.take_append_of_le_length (by omega)] at h3
  exact ⟨hk, h2, h3⟩

/-- A part of a sector, up to its end. -/
def pad (x : Bs) : Bs := x ++ zeros (504 - x.length)

/-- A sector of a stream under a stamp. -/
def img (G : Nat) (S : Bs) (i : Nat) : Bs := digs G 8 ++ pad ((S.drop (504 * i)).take 504)

theorem img_length (G : Nat) (S : Bs) (i : Nat) : (img G S i).length = 512 := by
  simp [img, pad, digs_length, zeros]; omega

theorem img_get (G : Nat) (S : Bs) (i t : Nat) (ht : t < 504) : (img G S i)[8 + t]? = some ((S[504 * i + t]?).getD 0) := by
  rw [img, List.getElem?_append_right (by rw [digs_length]; omega), digs_length, show 8 + t - 8 = t by omega, pad]
  by_cases h : 504 * i + t < S.length
  · rw [List.getElem?_append_left (by simp; omega), List.getElem?_take_of_lt ht, List.getElem?_drop, List.getElem?_eq_getElem h]; rfl
  · rw [List.getElem?_append_right (by simp; omega), zeros, List.getElem?_replicate]
    rw [List.getElem?_eq_none (show S.length ≤ 504 * i + t by omega)]
    simp; omega

theorem img_take (G : Nat) (S : Bs) (i : Nat) : (img G S i).take 8 = digs G 8 := by
  rw [img, List.take_append_of_le_length (by rw [digs_length]; exact Nat.le_refl _), List.take_of_length_le (by rw [digs_length]; exact Nat.le_refl _)]

/-- The stamp of a sector. -/
def mrk (b : Bs) : Nat := if num (b.take 8) < 9223372036854775808 then num (b.take 8) else 0

theorem mrk_img (G : Nat) (S : Bs) (i : Nat) (hG : G < 9223372036854775808) : mrk (img G S i) = G := by
  have : num (digs G 8) = G := digs_num_lt (Nat.lt_trans hG (by decide))
  rw [mrk, img_take, this, if_pos hG]

/-- The stream of the first sectors of a half. -/
def prt (c : Nat → Bs) (first : Nat) : Nat → Bs
  | 0 => []
  | t + 1 => prt c first t ++ (c (first + t)).drop 8

theorem prt_length (c : Nat → Bs) (first t : Nat) (h : ∀ i, i < t → (c (first + i)).length = 512) : (prt c first t).length = 504 * t := by
  induction t with
  | zero => rfl
  | succ t ih =>
    have h1 := ih (fun i hi => h i (by omega))
    have h2 := h t (by omega)
    simp [prt, h1, h2]; omega

theorem prt_get (c : Nat → Bs) (first t : Nat) (h : ∀ i, i < t → (c (first + i)).length = 512) (i r : Nat) (hi : i < t) (hr : r < 504) : (prt c first t)[504 * i + r]? = (c (first + i))[8 + r]? := by
  induction t with
  | zero => omega
  | succ t ih =>
    have h' : ∀ i, i < t → (c (first + i)).length = 512 := fun i hi => h i (by omega)
    have hl := prt_length c first t h'
    by_cases hit : i < t
    · rw [prt, List.getElem?_append_left (by omega)]; exact ih h' hit
    · obtain rfl : i = t := by omega
      rw [prt, List.getElem?_append_right (by omega), hl, List.getElem?_drop]
      congr 1; omega

/-- These are the records of a stream: as long as the frame of one stands where it should. -/
structure IsRecs (s : Bs) (l : List Bs) : Prop where
  all : ∀ k (h : k < l.length), frm l[k] k <+: s.drop (pos l k)
  none : ∀ b, ¬ frm b l.length <+: s.drop (bgn (strm l).length)

/-- The sector i is there as it was behind some record above j. -/
def Ver (c : Nat → Bs) (first G : Nat) (rs : List Bs) (i j : Nat) : Prop := ∃ v, j < v ∧ v ≤ rs.length ∧ tch rs (v - 1) i ∧ c (first + i) = img G (strm (rs.take v)) i

/-- What a half may be like: each sector is another's, or is there as it was behind one of the records; those of the first s records are there as they were behind them, or later. -/
structure View (c : Nat → Bs) (first H G : Nat) (rs : List Bs) (s : Nat) : Prop where
  each : ∀ i, i < H → mrk (c (first + i)) ≠ G ∨ Ver c first G rs i 0
  safe : ∀ j i, j < s → i < H → tch rs j i → Ver c first G rs i j

theorem prefix_get {a s : Bs} {p t : Nat} (h : a <+: s.drop p) (ht : t < a.length) : s[p + t]? = some a[t] := by
  obtain ⟨r, hr⟩ := h
  rw [← List.getElem?_drop, ← hr, List.getElem?_append_left ht, List.getElem?_eq_getElem ht]

theorem prefix_of_get {a s : Bs} {p : Nat} (h : ∀ t (ht : t < a.length), s[p + t]? = some a[t]) : a <+: s.drop p := by
  rw [List.prefix_iff_eq_take]
  refine List.ext_getElem? fun t => ?_
  by_cases ht : t < a.length
  · rw [List.getElem?_take_of_lt ht, List.getElem?_drop, h t ht, List.getElem?_eq_getElem ht]
  · rw [List.getElem?_eq_none (by omega), List.getElem?_eq_none (by simp; omega)]

/-- The bytes of the frame k within a stream that goes at least so far. -/
theorem frame_get (l : List Bs) (k v : Nat) (hk : k < l.length) (hv : k < v) (t : Nat) (ht : t < 12 + l[k].length) : (strm (l.take v))[pos l k + t]? = (frm l[k] k)[t]? := by
  obtain ⟨r, hr⟩ := strm_take_prefix l (show k + 1 ≤ v from hv)
  have hl := pos_end l k hk
  rw [← hr, List.getElem?_append_left (by omega), strm_take l k hk, addR]
  have hz : (strm (l.take k) ++ zeros (bgn (strm (l.take k)).length - (strm (l.take k)).length)).length = pos l k := by
    have := bgn_le (strm (l.take k)).length
    simp [zeros, pos]; omega
  rw [List.getElem?_append_right (by omega), hz]
  congr 1; omega

/-- Up to the end of a frame each sector has a byte of some frame. -/
theorem sector_of (l : List Bs) : ∀ (m : Nat), m < l.length → ∀ i, 504 * i < (strm (l.take (m + 1))).length → ∃ j, j ≤ m ∧ tch l j i := by
  intro m
  induction m with
  | zero =>
    intro hm i hi
    refine ⟨0, Nat.le_refl _, hm, ?_, hi⟩
    simp [pos, strm_nil, bgn_zero]
  | succ m ih =>
    intro hm i hi
    by_cases h : pos l (m + 1) < 504 * (i + 1)
    · exact ⟨m + 1, Nat.le_refl _, hm, h, hi⟩
    · have hb : 504 * i < pos l (m + 1) := by omega
      have hp := pos_end l m (by omega)
      rcases bgn_sector _ i hb with h1 | h1
      · obtain ⟨j, hj, ht⟩ := ih (by omega) i h1
        exact ⟨j, by omega, ht⟩
      · omega

/-- A frame that touches a sector behind the one in which another begins is no earlier one. -/
theorem later_of (l : List Bs) (k i v : Nat) (hi : pos l k < 504 * i) (ht : tch l v i) : k ≤ v := by
  by_cases h : k ≤ v
  · exact h
  · have h1 := strm_take_len l (show v + 1 ≤ k by omega)
    have h2 := pos_ge l k
    have := ht.2.2
    omega

theorem digs_zero_of {n : Nat} (hn : n < 256 ^ 4) (h : digs n 4 = zeros 4) : n = 0 := by
  have := digs_num_lt hn
  rw [h, zeros, num_zero] at this
  exact this.symm

theorem fh_num (b : Bs) (n t : Nat) (ht : t < 4) : (fh b n)[4 + t]? = (digs n 4)[t]? := by
  rw [fh, List.append_assoc, List.getElem?_append_right (by rw [digs_length]; omega), digs_length, List.getElem?_append_left (by rw [digs_length]; omega)]
  congr 1; omega
theorem fh_len (b : Bs) (n t : Nat) (ht : t < 4) : (fh b n)[t]? = (digs b.length 4)[t]? := by
  rw [fh, List.append_assoc, List.getElem?_append_left (by rw [digs_length]; omega)]
theorem frm_fh (b : Bs) (n t : Nat) (ht : t < 12) : (frm b n)[t]? = (fh b n)[t]? := by
  rw [frm, List.getElem?_append_left (by rw [fh_length]; omega)]

theorem same_len {a b : Bs} {n m : Nat} (ha : a.length < 256 ^ 4) (hb : b.length < 256 ^ 4) (h : ∀ t, t < 4 → (frm a n)[t]? = (frm b m)[t]?) : a.length = b.length := by
  refine digs_inj ha hb (List.ext_getElem? fun t => ?_)
  by_cases ht : t < 4
  · rw [← fh_len a n t ht, ← fh_len b m t ht, ← frm_fh a n t (by omega), ← frm_fh b m t (by omega)]; exact h t ht
  · rw [List.getElem?_eq_none (by rw [digs_length]; omega), List.getElem?_eq_none (by rw [digs_length]; omega)]

section
variable {c : Nat → Bs} {first H G : Nat} {rs : List Bs} {s t : Nat} {l : List Bs}

/-- The bytes of a frame, where all its sectors are there as they were behind it. -/
theorem stream_get (h512 : ∀ i, i < t → (c (first + i)).length = 512) (k : Nat) (hk : k < rs.length) (x : Nat) (hx : x < 12 + rs[k].length) (hpx : pos rs k + x < 504 * t)
    (hv : Ver c first G rs ((pos rs k + x) / 504) k) : (prt c first t)[pos rs k + x]? = (frm rs[k] k)[x]? := by
  obtain ⟨v, hkv, hvl, _, hc⟩ := hv
  have hi : (pos rs k + x) / 504 < t := by omega
  have e : pos rs k + x = 504 * ((pos rs k + x) / 504) + (pos rs k + x) % 504 := by omega
  have hf := frame_get rs k v hk hkv x hx
  have hlt : x < (frm rs[k] k).length := by rw [frm_length]; exact hx
  rw [List.getElem?_eq_getElem hlt] at hf
  rw [e, prt_get c first t h512 _ _ hi (by omega), hc, img_get _ _ _ _ (by omega), ← e, hf, List.getElem?_eq_getElem hlt]; rfl

theorem found (V : View c first H G rs s) (h512 : ∀ i, i < H → (c (first + i)).length = 512) (hfit : (strm rs).length ≤ 504 * H) (hs : s ≤ rs.length) (hsm : 504 * H < 256 ^ 4)
    (ht : t ≤ H) (hst : ∀ i, i < t → mrk (c (first + i)) = G) (hend : t = H ∨ mrk (c (first + t)) ≠ G) (hG : G < 9223372036854775808) (hl : IsRecs (prt c first t) l) :
    ∃ m, s ≤ m ∧ m ≤ rs.length ∧ l = rs.take m := by
  have h5 : ∀ i, i < t → (c (first + i)).length = 512 := fun i hi => h512 i (by omega)
  have hpl := prt_length c first t h5
  have hver : ∀ i, i < t → Ver c first G rs i 0 := fun i hi => (V.each i (by omega)).resolve_left (fun h => h (hst i hi))
  have hsmall : ∀ k (hk : k < rs.length), rs[k].length < 256 ^ 4 ∧ k < 256 ^ 4 := by
    intro k hk
    have h1 := pos_end rs k hk
    have h2 := strm_take_len rs (show k + 1 ≤ rs.length by omega)
    rw [List.take_length] at h2
    refine ⟨by omega, ?_⟩
    have : ∀ j, j ≤ rs.length → 12 * j ≤ (strm (rs.take j)).length := by
      intro j
      induction j with
      | zero => intro _; omega
      | succ j ih =>
        intro hj
        have := pos_end rs j (by omega)
        have := pos_ge rs j
        have := ih (by omega)
        omega
    have := this (k + 1) (by omega)
    omega
  have key : ∀ k, k ≤ l.length → k ≤ rs.length ∧ l.take k = rs.take k := by
    intro k
    induction k with
    | zero => intro _; exact ⟨Nat.zero_le _, rfl⟩
    | succ k ih =>
      intro hk
      obtain ⟨h1, h2⟩ := ih (by omega)
      have hp := hl.all k (by omega)
      have hpos : pos l k = pos rs k := by rw [pos, pos, h2]
      rw [hpos] at hp
      have hfl := hp.length_le
      have hpl2 : pos rs k + 12 + l[k].length ≤ 504 * t := by rw [frm_length, List.length_drop, hpl] at hfl; omega
      have hhead := bgn_head (strm (rs.take k)).length
      have hq : pos rs k / 504 < t := by omega
      have hmod : pos rs k % 504 ≤ 492 := hhead
      -- the sector in which it begins is there as it was behind the record
      obtain ⟨v, hv0, hvl, hvt, hvc⟩ := hver _ hq
      have hkv : k < v := by
        by_cases hkv : k < v
        · exact hkv
        · exfalso
          have hzero : ∀ x, x < 12 → (frm l[k] k)[x]? = some 0 := by
            intro x hx
            have g1 := prefix_get hp (t := x) (by rw [frm_length]; omega)
            have e : pos rs k + x = 504 * (pos rs k / 504) + (pos rs k % 504 + x) := by omega
            rw [e, prt_get c first t h5 _ _ hq (by omega), hvc, img_get _ _ _ _ (by omega), ← e] at g1
            have hlen := strm_take_len rs (show v ≤ k by omega)
            have hge := pos_ge rs k
            rw [List.getElem?_eq_none (by omega)] at g1
            rw [List.getElem?_eq_getElem (by rw [frm_length]; omega), ← g1]; rfl
          have hk0 : digs k 4 = zeros 4 := by
            refine List.ext_getElem? fun x => ?_
            by_cases hx : x < 4
            · rw [← fh_num l[k] k x hx, ← frm_fh _ _ _ (by omega), hzero _ (by omega), zeros, List.getElem?_replicate, if_pos hx]
            · rw [List.getElem?_eq_none (by rw [digs_length]; omega), List.getElem?_eq_none (by simp [zeros]; omega)]
          have hk4 : k < 256 ^ 4 := by
            have : ∀ j, j ≤ rs.length → 12 * j ≤ (strm (rs.take j)).length := by
              intro j
              induction j with
              | zero => intro _; omega
              | succ j ih =>
                intro hj
                have := pos_end rs j (by omega)
                have := pos_ge rs j
                have := ih (by omega)
                omega
            have := this k h1
            have := pos_ge rs k
            omega
          have := digs_zero_of hk4 hk0
          omega
      have hkr : k < rs.length := by omega
      have hsk := hsmall k hkr
      have hbeg : ∀ i, pos rs k / 504 ≤ i → i < t → Ver c first G rs i k := by
        intro i hi hit
        by_cases hiq : i = pos rs k / 504
        · subst hiq; exact ⟨v, hkv, hvl, hvt, hvc⟩
        · obtain ⟨v', hv0', hvl', hvt', hvc'⟩ := hver i hit
          have := later_of rs k i (v' - 1) (by omega) hvt'
          exact ⟨v', by omega, hvl', hvt', hvc'⟩
      have hlen : l[k].length = rs[k].length := by
        refine same_len (n := k) (m := k) (by omega) hsk.1 (fun x hx => ?_)
        have g1 := prefix_get hp (t := x) (by rw [frm_length]; omega)
        rw [List.getElem?_eq_getElem (by rw [frm_length]; omega), ← g1]
        exact stream_get h5 k hkr x (by omega) (by omega) (hbeg _ (by omega) (by omega))
      have hrec : frm l[k] k = frm rs[k] k := by
        refine List.ext_getElem? fun x => ?_
        by_cases hx : x < 12 + l[k].length
        · have g1 := prefix_get hp (t := x) (by rw [frm_length]; omega)
          rw [List.getElem?_eq_getElem (by rw [frm_length]; omega), ← g1]
          exact stream_get h5 k hkr x (by omega) (by omega) (hbeg _ (by omega) (by omega))
        · rw [List.getElem?_eq_none (by rw [frm_length]; omega), List.getElem?_eq_none (by rw [frm_length]; omega)]
      have hr2 : l[k] = rs[k] := by
        have : (frm l[k] k).drop 12 = (frm rs[k] k).drop 12 := by rw [hrec]
        rw [frm, frm, List.drop_left' (fh_length _ _), List.drop_left' (fh_length _ _)] at this
        exact this
      refine ⟨hkr, ?_⟩
      rw [List.take_succ_eq_append_getElem (show k < l.length by omega), List.take_succ_eq_append_getElem hkr, h2, hr2]
  obtain ⟨hm, he⟩ := key l.length (Nat.le_refl _)
  rw [List.take_length] at he
  refine ⟨l.length, ?_, hm, he⟩
  -- all that were safe
  by_cases hsm' : s ≤ l.length
  · exact hsm'
  · exfalso
    have hlr : l.length < rs.length := by omega
    have hpe := pos_end rs l.length hlr
    have hpe2 := strm_take_len rs (show l.length + 1 ≤ rs.length by omega)
    rw [List.take_length] at hpe2
    have hall : ∀ i, 504 * i < (strm (rs.take (l.length + 1))).length → i < t := by
      intro i hi
      by_cases hit : i < t
      · exact hit
      · rcases hend with rfl | hend
        · omega
        · obtain ⟨j, hj, htc⟩ := sector_of rs l.length hlr t (by omega)
          obtain ⟨v, _, _, _, hvc⟩ := V.safe j t (by omega) (by omega) htc
          rw [hvc, mrk_img _ _ _ hG] at hend
          exact absurd rfl hend
    refine hl.none rs[l.length] ?_
    have hpos : bgn (strm l).length = pos rs l.length := by rw [pos, ← he]
    rw [hpos]
    refine prefix_of_get fun x hx => ?_
    rw [frm_length] at hx
    have hin : (pos rs l.length + x) / 504 < t := hall _ (by omega)
    rw [stream_get (G := G) h5 l.length hlr x hx (by omega), List.getElem?_eq_getElem (by rw [frm_length]; omega)]
    refine V.safe l.length _ (by omega) (by omega) ⟨hlr, ?_, ?_⟩
    · omega
    · omega

end
end Go.Proofs.YtjkghgcdkfkekaaGreatDoor

