import Derived.Test.YtkjoojamkbpfcabGreatPX
import Derived.Test.YtkjoojamkbpfcabGreatNX
import Derived.Test.YtkjoojamkbpfcabGreatNU
/- Whole records, written and read: what they come to, of all kinds. -/
namespace Go.Proofs.YtkjoojamkbpfcabGreat
open Go.RowKit

section
variable {A : Type}
/-- A record out of bytes; its bytes. -/
def rdG (is : List It) (of : List Vl → A) (bad : A → Int) (Z : A) (bs : List UInt8) : A × Int × Int :=
  if (endR (rdI bs is s0).2 bs.length).c ≠ 0 then (Z, (endR (rdI bs is s0).2 bs.length).c, (endR (rdI bs is s0).2 bs.length).f)
  else if bad (of (rdI bs is s0).1) = 0 then (of (rdI bs is s0).1, 0, 0) else (Z, bad (of (rdI bs is s0).1), -1)
def wrG (is : List It) (vs : A → List Vl) (bad : A → Int) (x : A) : List UInt8 × Int :=
  if bad x = 0 then ((wrI is (vs x)).getD [], codeOf (wrI is (vs x))) else ([], bad x)

theorem code_zero {o : Option (List UInt8)} (h : codeOf o = 0) : ∃ l, o = some l := by
  cases o with
  | none => simp [codeOf] at h
  | some l => exact ⟨l, rfl⟩

theorem gen_wrote {is : List It} {vs : A → List Vl} {bad : A → Int} {x : A} (h : (wrG is vs bad x).2 = 0) : bad x = 0 ∧ wrI is (vs x) = some (wrG is vs bad x).1 := by
  unfold wrG at h ⊢
  by_cases hb : bad x = 0
  · rw [if_pos hb] at h ⊢
    obtain ⟨l, hl⟩ := code_zero h
    exact ⟨hb, by rw [hl]; rfl⟩
  · rw [if_neg hb] at h
    exact absurd h hb

theorem gen_back {is : List It} {vs : A → List Vl} {of : List Vl → A} {bad : A → Int} {Z : A} {x : A} (h : (wrG is vs bad x).2 = 0) (hb : of (vs x) = x) (hf : bad x = 0 → FitsI is (vs x)) :
    rdG is of bad Z (wrG is vs bad x).1 = (x, 0, 0) ∧ (∀ b, rdG is of bad Z ((wrG is vs bad x).1 ++ [b]) = (Z, 13, ((wrG is vs bad x).1.length : Int))) ∧ ∀ n, n < (wrG is vs bad x).1.length → (rdG is of bad Z ((wrG is vs bad x).1.take n)).2.1 = 10 := by
  obtain ⟨h0, hw⟩ := gen_wrote h
  generalize (wrG is vs bad x).1 = l at hw ⊢
  have hF := hf h0
  refine ⟨?_, fun b => ?_, fun n hn => ?_⟩
  · obtain ⟨e1, e2⟩ := whole_back hF hw
    unfold rdG
    rw [if_neg (by rw [e2]; simp), e1, hb, if_pos h0]
  · obtain ⟨e1, e2⟩ := whole_more b hF hw
    unfold rdG
    rw [if_pos (by rw [e1]; decide), e1, e2]
  · have e1 := whole_short n hn hF hw
    unfold rdG
    rw [if_pos (by rw [e1]; decide)]
    exact e1

theorem gen_form {is : List It} {vs : A → List Vl} {of : List Vl → A} {bad : A → Int} {Z : A} {bs : List UInt8} (h : (rdG is of bad Z bs).2.1 = 0) (hv : vs (of (rdI bs is s0).1) = (rdI bs is s0).1) :
    wrG is vs bad (rdG is of bad Z bs).1 = (bs, 0) ∧ rdG is of bad Z bs = (of (rdI bs is s0).1, 0, 0) := by
  unfold rdG at h ⊢
  by_cases hc : (endR (rdI bs is s0).2 bs.length).c = 0
  · rw [if_neg (by rw [hc]; simp)] at h ⊢
    by_cases hb : bad (of (rdI bs is s0).1) = 0
    · rw [if_pos hb]
      refine ⟨?_, rfl⟩
      unfold wrG
      simp only
      rw [if_pos hb, hv, whole_form hc]
      rfl
    · rw [if_neg hb] at h
      exact absurd h hb
  · rw [if_pos hc] at h
    exact absurd h hc

theorem if_ok {B : Type} (ok : A → Bool) (E : A → Int) (hE : ∀ x, E x = if ok x then 0 else 80) (x : A) (p q : B) : (if ok x then p else q) = if E x = 0 then p else q := by
  rw [hE x]
  cases ok x <;> simp
theorem if_ok2 {B : Type} (ok : A → Bool) (E : A → Int) (hE : ∀ x, E x = if ok x then 0 else 80) (x : A) (p : B) (q : Int → B) : (if ok x then p else q 80) = if E x = 0 then p else q (E x) := by
  rw [hE x]
  cases ok x <;> simp
end

/- taps -/
def tapI : List It := [.l tapK]
def tapV (t : Tp) : List Vl := [.l (tpC t).toList]
def tapG : List Vl → Tp
  | [.l v] => tapOf v
  | _ => tapZ
theorem tapW_G (t : Tp) : tapW t = wrG tapI tapV tapE t := by
  unfold tapW wrG
  rw [if_ok2 tapOk tapE (fun _ => rfl) t ((tapB t).getD [], codeOf (tapB t)) (fun e => (([] : List UInt8), e))]
  have e : wrI tapI (tapV t) = tapB t := stepW_nil _
  rw [e]
theorem tapRd_G (bs : List UInt8) : tapRd bs = rdG tapI tapG tapE tapZ bs := by
  unfold tapRd rdG
  rw [if_ok2 tapOk tapE (fun _ => rfl) (tapOf (rdL bs tapK s00).1) (tapOf (rdL bs tapK s00).1, (0 : Int), (0 : Int)) (fun e => (tapZ, e, (-1 : Int)))]
  rfl
theorem tap_in {t : Tp} (h : tapE t = 0) : FitsI tapI (tapV t) := by
  have hk : tapOk t = true := by
    unfold tapE at h
    split at h
    · assumption
    · simp at h
  simp only [tapOk, Bool.and_eq_true, isIn_iff] at hk
  have hm : mostPlace t.kind ≤ 65535 := by unfold mostPlace; split <;> omega
  refine ⟨⟨?_, ?_, trivial, ?_, ?_, ?_, trivial⟩, trivial⟩ <;> simp only [Kd.fits] <;> omega
theorem tap_back {t : Tp} (h : (tapW t).2 = 0) : tapRd (tapW t).1 = (t, 0, 0) ∧ (∀ b, tapRd ((tapW t).1 ++ [b]) = (tapZ, 13, ((tapW t).1.length : Int))) ∧ ∀ n, n < (tapW t).1.length → (tapRd ((tapW t).1.take n)).2.1 = 10 := by
  rw [tapW_G] at h ⊢
  simp only [tapRd_G]
  exact gen_back h rfl tap_in
theorem tap_form {bs : List UInt8} (h : (tapRd bs).2.1 = 0) : tapW (tapRd bs).1 = (bs, 0) := by
  rw [tapRd_G] at h ⊢
  rw [tapW_G]
  exact (gen_form h (by show [Vl.l _] = [Vl.l _]; exact congrArg (fun x => [Vl.l x]) (tap_shape bs s00).symm)).1
theorem tap_len {t : Tp} (h : (tapW t).2 = 0) : (tapW t).1.length = 21 := by
  rw [tapW_G] at h ⊢
  obtain ⟨_, hw⟩ := gen_wrote h
  generalize (wrG tapI tapV tapE t).1 = l at hw ⊢
  obtain ⟨x, y, h1, h2, rfl⟩ := stepW_split (show stepW (wrL tapK (tpC t).toList) (some []) = some l from hw)
  injection h2 with h2
  subst h2
  simp only [List.append_nil]
  obtain ⟨x1, y1, a1, b1, rfl⟩ := stepW_split (show stepW (Kd.w _ _) (wrL [.num 4, .fix 8, .num 1, .num 2, .num 4] _) = some x from h1)
  obtain ⟨x2, y2, a2, b2, rfl⟩ := stepW_split (show stepW (Kd.w _ _) (wrL [.fix 8, .num 1, .num 2, .num 4] _) = some y1 from b1)
  obtain ⟨x3, y3, a3, b3, rfl⟩ := stepW_split (show stepW (Kd.w _ _) (wrL [.num 1, .num 2, .num 4] _) = some y2 from b2)
  obtain ⟨x4, y4, a4, b4, rfl⟩ := stepW_split (show stepW (Kd.w _ _) (wrL [.num 2, .num 4] _) = some y3 from b3)
  obtain ⟨x5, y5, a5, b5, rfl⟩ := stepW_split (show stepW (Kd.w _ _) (wrL [.num 4] _) = some y4 from b4)
  obtain ⟨x6, y6, a6, b6, rfl⟩ := stepW_split (show stepW (Kd.w _ _) (some []) = some y5 from b5)
  injection b6 with b6
  subst b6
  have k1 := Kd.w_length a1
  have k2 := Kd.w_length a2
  have k3 := Kd.w_length a3
  have k4 := Kd.w_length a4
  have k5 := Kd.w_length a5
  have k6 := Kd.w_length a6
  simp only [Kd.n] at k1 k2 k3 k4 k5 k6
  simp only [List.length_append, List.length_nil, k1, k2, k3, k4, k5, k6]

/- entries -/
def entryI : List It := [.l entryK]
def entryV (t : En) : List Vl := [.l (enC t).toList]
def entryG : List Vl → En
  | [.l v] => entryOf v
  | _ => entryZ
theorem entryW_G (t : En) : entryW t = wrG entryI entryV entryE t := by
  unfold entryW wrG
  rw [if_ok2 entryOk entryE (fun _ => rfl) t ((entryB t).getD [], codeOf (entryB t)) (fun e => (([] : List UInt8), e))]
  have e : wrI entryI (entryV t) = entryB t := stepW_nil _
  rw [e]
theorem entryRd_G (bs : List UInt8) : entryRd bs = rdG entryI entryG entryE entryZ bs := by
  unfold entryRd rdG
  rw [if_ok2 entryOk entryE (fun _ => rfl) (entryOf (rdL bs entryK s00).1) (entryOf (rdL bs entryK s00).1, (0 : Int), (0 : Int)) (fun e => (entryZ, e, (-1 : Int)))]
  rfl
theorem entry_in {t : En} (h : entryE t = 0) : FitsI entryI (entryV t) := by
  have hk : entryOk t = true := by
    unfold entryE at h
    split at h
    · assumption
    · simp at h
  simp only [entryOk, Bool.and_eq_true, isIn_iff] at hk
  refine ⟨⟨?_, trivial, ?_, trivial, trivial⟩, trivial⟩ <;> simp only [Kd.fits] <;> omega
theorem entry_back {t : En} (h : (entryW t).2 = 0) : entryRd (entryW t).1 = (t, 0, 0) := by
  rw [entryW_G] at h ⊢
  simp only [entryRd_G]
  exact (gen_back h rfl entry_in).1
theorem entry_form {bs : List UInt8} (h : (entryRd bs).2.1 = 0) : entryW (entryRd bs).1 = (bs, 0) := by
  rw [entryRd_G] at h ⊢
  rw [entryW_G]
  exact (gen_form h (by show [Vl.l _] = [Vl.l _]; exact congrArg (fun x => [Vl.l x]) (entry_shape bs s00).symm)).1

/- accounts -/
def accountI : List It := [.l accountK]
def accountV (t : Ac) : List Vl := [.l (acC t).toList]
def accountG : List Vl → Ac
  | [.l v] => accountOf v
  | _ => accountZ
theorem accountW_G (t : Ac) : accountW t = wrG accountI accountV accountE t := by
  unfold accountW wrG
  rw [if_ok2 accountOk accountE (fun _ => rfl) t ((accountB t).getD [], codeOf (accountB t)) (fun e => (([] : List UInt8), e))]
  have e : wrI accountI (accountV t) = accountB t := stepW_nil _
  rw [e]
theorem accountRd_G (bs : List UInt8) : accountRd bs = rdG accountI accountG accountE accountZ bs := by
  unfold accountRd rdG
  rw [if_ok2 accountOk accountE (fun _ => rfl) (accountOf (rdL bs accountK s00).1) (accountOf (rdL bs accountK s00).1, (0 : Int), (0 : Int)) (fun e => (accountZ, e, (-1 : Int)))]
  rfl
theorem account_in {t : Ac} (h : accountE t = 0) : FitsI accountI (accountV t) := by
  have hk : accountOk t = true := by
    unfold accountE at h
    split at h
    · assumption
    · simp at h
  simp only [accountOk, Bool.and_eq_true, isIn_iff] at hk
  refine ⟨⟨trivial, ?_, ?_, trivial⟩, trivial⟩ <;> simp only [Kd.fits] <;> omega
theorem account_back {t : Ac} (h : (accountW t).2 = 0) : accountRd (accountW t).1 = (t, 0, 0) := by
  rw [accountW_G] at h ⊢
  simp only [accountRd_G]
  exact (gen_back h rfl account_in).1
theorem account_form {bs : List UInt8} (h : (accountRd bs).2.1 = 0) : accountW (accountRd bs).1 = (bs, 0) := by
  rw [accountRd_G] at h ⊢
  rw [accountW_G]
  exact (gen_form h (by show [Vl.l _] = [Vl.l _]; exact congrArg (fun x => [Vl.l x]) (account_shape bs s00).symm)).1

theorem map_back {A : Type} (C : A → List Value) (f : List Value → A) (h : ∀ x, f (C x) = x) (l : List A) : (l.map C).map f = l := by
  rw [List.map_map]
  have : f ∘ C = id := funext h
  rw [this, List.map_id]

/- deltas -/
def deltaI : List It := [.l (List.replicate 1 (.num 8)), .m 1000 tokenK, .m 1000 tokenK]
def deltaV (d : Dl) : List Vl := [.l ([d.ver].map (Value.int .i64)), .m (d.add.map tkC), .m (d.gone.map tkC)]
def deltaG : List Vl → Dl
  | [.l v, .m a, .m b] => ⟨numOf (v.getD 0 undef), a.map tokOf, b.map tokOf⟩
  | _ => deltaZ
theorem deltaW_G (d : Dl) : deltaW d = wrG deltaI deltaV deltaE d := by
  unfold deltaW wrG
  rw [if_ok2 deltaOk deltaE (fun _ => rfl) d ((deltaB d).getD [], codeOf (deltaB d)) (fun e => (([] : List UInt8), e))]
  have e : wrI deltaI (deltaV d) = deltaB d := by
    show stepW _ (stepW _ (stepW _ (some []))) = _
    unfold deltaB
    rw [stepW_nil, stepW_some, stepW_assoc]
    rfl
  rw [e]
theorem deltaRd_G (bs : List UInt8) : deltaRd bs = rdG deltaI deltaG deltaE deltaZ bs := by
  unfold deltaRd rdG
  rw [if_ok2 deltaOk deltaE (fun _ => rfl) (deltaOf bs s00) (deltaOf bs s00, (0 : Int), (0 : Int)) (fun e => (deltaZ, e, (-1 : Int)))]
  rfl
theorem delta_in {d : Dl} (hv : d.ver ≤ 9223372036854775807) (h : deltaE d = 0) : FitsI deltaI (deltaV d) := by
  have hk : deltaOk d = true := by
    unfold deltaE at h
    split at h
    · assumption
    · simp at h
  simp only [deltaOk, Bool.and_eq_true] at hk
  have h1 := listOk_len hk.1.1.2
  have h2 := listOk_len hk.1.2
  refine ⟨⟨hv, trivial⟩, ⟨fun r hr => ?_, by simpa using h1⟩, ⟨fun r hr => ?_, by simpa using h2⟩, trivial⟩
  · obtain ⟨x, _, rfl⟩ := List.mem_map.1 hr
    exact ⟨trivial, trivial⟩
  · obtain ⟨x, _, rfl⟩ := List.mem_map.1 hr
    exact ⟨trivial, trivial⟩
theorem delta_back {d : Dl} (hv : d.ver ≤ 9223372036854775807) (h : (deltaW d).2 = 0) : deltaRd (deltaW d).1 = (d, 0, 0) ∧ ∀ n, n < (deltaW d).1.length → (deltaRd ((deltaW d).1.take n)).2.1 = 10 := by
  rw [deltaW_G] at h ⊢
  simp only [deltaRd_G]
  have hb : deltaG (deltaV d) = d := by
    show (⟨d.ver, (d.add.map tkC).map tokOf, (d.gone.map tkC).map tokOf⟩ : Dl) = d
    rw [map_back tkC tokOf (fun _ => rfl), map_back tkC tokOf (fun _ => rfl)]
  exact ⟨(gen_back h hb (delta_in hv)).1, (gen_back h hb (delta_in hv)).2.2⟩
theorem delta_ver (bs : List UInt8) (s : RS) : (deltaOf bs s).ver ≤ 9223372036854775807 := by
  show numOf ((Kd.num 8).rd bs s).1 ≤ _
  unfold Kd.rd stepR
  split
  · split
    · rename_i h
      obtain ⟨n, rfl, hn, _⟩ := form_number h
      exact hn
    · simp [Kd.z, numOf]
  · simp [Kd.z, numOf]
theorem deltaRd_ver (bs : List UInt8) : (deltaRd bs).1.ver ≤ 9223372036854775807 := by
  unfold deltaRd
  split
  · simp [deltaZ]
  split
  · exact delta_ver bs s00
  · simp [deltaZ]
theorem delta_form {bs : List UInt8} (h : (deltaRd bs).2.1 = 0) : deltaW (deltaRd bs).1 = (bs, 0) := by
  rw [deltaRd_G] at h ⊢
  rw [deltaW_G]
  refine (gen_form h ?_).1
  have h0 : (deltaQ0 bs s00).1 = [(deltaOf bs s00).ver].map (Value.int .i64) := by
    have e := (delta_shape bs s00).1
    show [((Kd.num 8).rd bs s00).1] = _
    rw [show ((Kd.num 8).rd bs s00).1 = (deltaQ0 bs s00).1.getD 0 undef from rfl, e]
    rfl
  show [Vl.l ([(deltaOf bs s00).ver].map (Value.int .i64)), Vl.m (((deltaQ1 bs s00).1.map tokOf).map tkC), Vl.m (((deltaQ2 bs s00).1.map tokOf).map tkC)] = [Vl.l (deltaQ0 bs s00).1, Vl.m (deltaQ1 bs s00).1, Vl.m (deltaQ2 bs s00).1]
  rw [h0, ← (show (deltaQ1 bs s00).1 = ((deltaQ1 bs s00).1.map tokOf).map tkC from (tokens_shape bs 1000 _).1), ← (show (deltaQ2 bs s00).1 = ((deltaQ2 bs s00).1.map tokOf).map tkC from (tokens_shape bs 1000 _).1)]

/- outages -/
def outsI : List It := [.m 100 outageK]
def outsV (l : List Otg) : List Vl := [.m (l.map otC)]
def outsG : List Vl → List Otg
  | [.m a] => a.map otOf
  | _ => []
theorem outsW_G (l : List Otg) : outsW l = wrG outsI outsV outsE l := by
  unfold outsW wrG
  rw [if_ok2 outsOk outsE (fun _ => rfl) l ((outsB l).getD [], codeOf (outsB l)) (fun e => (([] : List UInt8), e))]
  have e : wrI outsI (outsV l) = outsB l := by
    show stepW _ (some []) = _
    unfold outsB
    rw [stepW_nil, stepW_some]
    rfl
  rw [e]
theorem outsRd_G (bs : List UInt8) : outsRd bs = rdG outsI outsG outsE [] bs := by
  unfold outsRd rdG
  rw [if_ok2 outsOk outsE (fun _ => rfl) (outsOf bs) (outsOf bs, (0 : Int), (0 : Int)) (fun e => (([] : List Otg), e, (-1 : Int)))]
  rfl
theorem outs_in {l : List Otg} (h : outsE l = 0) : FitsI outsI (outsV l) := by
  have hk : outsOk l = true := by
    unfold outsE at h
    split at h
    · assumption
    · simp at h
  have hs := outs_small l hk
  simp only [outsOk, Bool.and_eq_true, decide_eq_true_eq] at hk
  refine ⟨⟨fun r hr => ?_, by simpa using hk.1⟩, trivial⟩
  obtain ⟨x, hx, rfl⟩ := List.mem_map.1 hr
  have := hs x hx
  exact ⟨this.1, this.2.1, this.2.2, trivial⟩
theorem outs_back {l : List Otg} (h : (outsW l).2 = 0) : outsRd (outsW l).1 = (l, 0, 0) := by
  rw [outsW_G] at h ⊢
  simp only [outsRd_G]
  exact (gen_back h (map_back otC otOf (fun _ => rfl) l) outs_in).1
theorem outs_form {bs : List UInt8} (h : (outsRd bs).2.1 = 0) : outsW (outsRd bs).1 = (bs, 0) := by
  rw [outsRd_G] at h ⊢
  rw [outsW_G]
  refine (gen_form h ?_).1
  show [Vl.m (((rdM bs 100 outageK s00).1.map otOf).map otC)] = [Vl.m (rdM bs 100 outageK s00).1]
  rw [← (outs_shape bs 100 _).1]

/- tariffs -/
def tarI : List It := [.m 200 stationK, .m 45 spanK, .m 8 bandK, .l [.float], .l (List.replicate 3 (.num 4)), .l (List.replicate 1 (.num 2)), .l (List.replicate 1 (.num 4)), .l (List.replicate 4 (.num 2)), .l (List.replicate 1 (.num 4))]
def tarV (t : Tf) : List Vl := [.m (t.st.map stC), .m (t.sp.map spC), .m (t.bd.map bdC), .l [.float .f64 t.off], .l ([t.bus, t.busDaily, t.busWeekly].map (Value.int .i64)), .l ([t.hopper].map (Value.int .i64)), .l ([t.most].map (Value.int .i64)), .l ([t.longest, t.change, t.passback, t.delay].map (Value.int .i64)), .l ([t.threshold].map (Value.int .i64))]
def tarG : List Vl → Tf
  | [.m a, .m b, .m c, .l f, .l q4, .l q5, .l q6, .l q7, .l q8] => ⟨a.map stOf, b.map spOf, c.map bdOf, fltIn (f.getD 0 undef), intIn (q4.getD 0 undef), intIn (q4.getD 1 undef), intIn (q4.getD 2 undef), intIn (q5.getD 0 undef), intIn (q6.getD 0 undef), intIn (q7.getD 0 undef), intIn (q7.getD 1 undef), intIn (q7.getD 2 undef), intIn (q7.getD 3 undef), intIn (q8.getD 0 undef)⟩
  | _ => tarZ
theorem tarW_G (t : Tf) : tarW t = wrG tarI tarV rightE t := by
  unfold tarW wrG
  have e4 : wrL [.float] [.float .f64 t.off] = (Kd.float).w (.float .f64 t.off) := stepW_nil _
  have e : wrI tarI (tarV t) = tarB t := by
    unfold tarB
    simp only [tarI, tarV, wrI, It.wr, e4, stepW_nil, stepW_some, stepW_assoc]
  rw [e]
theorem rdL_one (bs : List UInt8) (k : Kd) (s : RS) : rdL bs [k] s = ([(k.rd bs s).1], (k.rd bs s).2) := rfl
theorem tar_rdI (bs : List UInt8) : rdI bs tarI s0 = ([.m (tariffQ0 bs s00).1, .m (tariffQ1 bs s00).1, .m (tariffQ2 bs s00).1, .l [(tariffQ3 bs s00).1], .l (tariffQ4 bs s00).1, .l (tariffQ5 bs s00).1, .l (tariffQ6 bs s00).1, .l (tariffQ7 bs s00).1, .l (tariffQ8 bs s00).1], tariffS9 bs s00) := by
  show rdI bs tarI s00 = _
  simp only [tarI, rdI, It.rd, rdL_one, tariffS9, tariffQ8, tariffS8, tariffQ7, tariffS7, tariffQ6, tariffS6, tariffQ5, tariffS5, tariffQ4, tariffS4, tariffQ3, tariffS3, tariffQ2, tariffS2, tariffQ1, tariffS1, tariffQ0]
theorem tarRd_G (bs : List UInt8) : tarRd bs = rdG tarI tarG rightE tarZ bs := by
  unfold tarRd rdG
  rw [tar_rdI]
  have e : tarG [.m (tariffQ0 bs s00).1, .m (tariffQ1 bs s00).1, .m (tariffQ2 bs s00).1, .l [(tariffQ3 bs s00).1], .l (tariffQ4 bs s00).1, .l (tariffQ5 bs s00).1, .l (tariffQ6 bs s00).1, .l (tariffQ7 bs s00).1, .l (tariffQ8 bs s00).1] = tarOf bs s00 := rfl
  simp only [e]
theorem tar_in {t : Tf} (h : rightE t = 0) : FitsI tarI (tarV t) := by
  have hS := small_of h
  have hnan : nanB t.off = false := by
    unfold nanB
    have hs := hS.off
    rw [show FloatKind.f64.format.order t.off t.off = some .eq from order_self (by omega) (by omega)]
    rfl
  refine ⟨⟨fun r hr => ?_, by simpa using hS.lS⟩, ⟨fun r hr => ?_, by simpa using hS.lP⟩, ⟨fun r hr => ?_, by simpa using hS.lB⟩, ⟨⟨by have := hS.off; omega, hnan⟩, trivial⟩, ⟨?_, ?_, ?_, trivial⟩, ⟨?_, trivial⟩, ⟨?_, trivial⟩, ⟨?_, ?_, ?_, ?_, trivial⟩, ⟨?_, trivial⟩, trivial⟩
  · obtain ⟨x, hx, rfl⟩ := List.mem_map.1 hr
    have := hS.st x hx
    refine ⟨?_, ?_, ?_, trivial⟩ <;> simp only [Kd.fits] <;> omega
  · obtain ⟨x, hx, rfl⟩ := List.mem_map.1 hr
    have := hS.sp x hx
    refine ⟨?_, ?_, ?_, ?_, ?_, trivial⟩ <;> simp only [Kd.fits] <;> omega
  · obtain ⟨x, hx, rfl⟩ := List.mem_map.1 hr
    have := hS.bd x hx
    refine ⟨?_, ?_, trivial⟩ <;> simp only [Kd.fits] <;> omega
  · have := hS.bus; simp only [Kd.fits]; omega
  · have := hS.busDaily; simp only [Kd.fits]; omega
  · have := hS.busWeekly; simp only [Kd.fits]; omega
  · have := hS.hopper; simp only [Kd.fits]; omega
  · have := hS.most; simp only [Kd.fits]; omega
  · have := hS.longest; simp only [Kd.fits]; omega
  · have := hS.change; simp only [Kd.fits]; omega
  · have := hS.passback; simp only [Kd.fits]; omega
  · have := hS.delay; simp only [Kd.fits]; omega
  · have := hS.threshold; simp only [Kd.fits]; omega
theorem tar_back {t : Tf} (h : (tarW t).2 = 0) : tarRd (tarW t).1 = (t, 0, 0) ∧ (∀ b, tarRd ((tarW t).1 ++ [b]) = (tarZ, 13, ((tarW t).1.length : Int))) ∧ ∀ n, n < (tarW t).1.length → (tarRd ((tarW t).1.take n)).2.1 = 10 := by
  rw [tarW_G] at h ⊢
  simp only [tarRd_G]
  refine gen_back h ?_ tar_in
  show (⟨(t.st.map stC).map stOf, (t.sp.map spC).map spOf, (t.bd.map bdC).map bdOf, t.off, t.bus, t.busDaily, t.busWeekly, t.hopper, t.most, t.longest, t.change, t.passback, t.delay, t.threshold⟩ : Tf) = t
  rw [map_back stC stOf (fun _ => rfl), map_back spC spOf (fun _ => rfl), map_back bdC bdOf (fun _ => rfl)]
theorem nums1 (bs : List UInt8) (k : Nat) (s : RS) : (rdL bs (List.replicate 1 (.num k)) s).1 = [intIn ((rdL bs (List.replicate 1 (.num k)) s).1.getD 0 undef)].map (Value.int .i64) := by
  have h := rdL_has bs (List.replicate 1 (.num k)) s
  generalize (rdL bs (List.replicate 1 (.num k)) s).1 = vs at h ⊢
  match vs, h with
  | [v0], ⟨⟨_, e0⟩, _⟩ => subst e0; rfl
theorem nums3 (bs : List UInt8) (k : Nat) (s : RS) : (rdL bs (List.replicate 3 (.num k)) s).1 = [intIn ((rdL bs (List.replicate 3 (.num k)) s).1.getD 0 undef), intIn ((rdL bs (List.replicate 3 (.num k)) s).1.getD 1 undef), intIn ((rdL bs (List.replicate 3 (.num k)) s).1.getD 2 undef)].map (Value.int .i64) := by
  have h := rdL_has bs (List.replicate 3 (.num k)) s
  generalize (rdL bs (List.replicate 3 (.num k)) s).1 = vs at h ⊢
  match vs, h with
  | [v0, v1, v2], ⟨⟨_, e0⟩, ⟨_, e1⟩, ⟨_, e2⟩, _⟩ => subst e0 e1 e2; rfl
theorem nums4 (bs : List UInt8) (k : Nat) (s : RS) : (rdL bs (List.replicate 4 (.num k)) s).1 = [intIn ((rdL bs (List.replicate 4 (.num k)) s).1.getD 0 undef), intIn ((rdL bs (List.replicate 4 (.num k)) s).1.getD 1 undef), intIn ((rdL bs (List.replicate 4 (.num k)) s).1.getD 2 undef), intIn ((rdL bs (List.replicate 4 (.num k)) s).1.getD 3 undef)].map (Value.int .i64) := by
  have h := rdL_has bs (List.replicate 4 (.num k)) s
  generalize (rdL bs (List.replicate 4 (.num k)) s).1 = vs at h ⊢
  match vs, h with
  | [v0, v1, v2, v3], ⟨⟨_, e0⟩, ⟨_, e1⟩, ⟨_, e2⟩, ⟨_, e3⟩, _⟩ => subst e0 e1 e2 e3; rfl
theorem tar_form {bs : List UInt8} (h : (tarRd bs).2.1 = 0) : tarW (tarRd bs).1 = (bs, 0) := by
  rw [tarRd_G] at h ⊢
  rw [tarW_G]
  refine (gen_form h ?_).1
  have hf : [(tariffQ3 bs s00).1] = [.float .f64 (fltIn (tariffQ3 bs s00).1)] := congrArg (fun x => [x]) (flt_shape bs _).1
  have h0 : (tariffQ0 bs s00).1 = ((tariffQ0 bs s00).1.map stOf).map stC := (sts_shape bs 200 _).1
  have h1 : (tariffQ1 bs s00).1 = ((tariffQ1 bs s00).1.map spOf).map spC := (sps_shape bs 45 _).1
  have h2 : (tariffQ2 bs s00).1 = ((tariffQ2 bs s00).1.map bdOf).map bdC := (bds_shape bs 8 _).1
  have h4 := nums3 bs 4 (tariffS4 bs s00)
  have h5 := nums1 bs 2 (tariffS5 bs s00)
  have h6 := nums1 bs 4 (tariffS6 bs s00)
  have h7 := nums4 bs 2 (tariffS7 bs s00)
  have h8 := nums1 bs 4 (tariffS8 bs s00)
  show [Vl.m (((tariffQ0 bs s00).1.map stOf).map stC), Vl.m (((tariffQ1 bs s00).1.map spOf).map spC), Vl.m (((tariffQ2 bs s00).1.map bdOf).map bdC), Vl.l [.float .f64 (fltIn (tariffQ3 bs s00).1)], Vl.l _, Vl.l _, Vl.l _, Vl.l _, Vl.l _] = [Vl.m (tariffQ0 bs s00).1, Vl.m (tariffQ1 bs s00).1, Vl.m (tariffQ2 bs s00).1, Vl.l [(tariffQ3 bs s00).1], Vl.l (tariffQ4 bs s00).1, Vl.l (tariffQ5 bs s00).1, Vl.l (tariffQ6 bs s00).1, Vl.l (tariffQ7 bs s00).1, Vl.l (tariffQ8 bs s00).1]
  rw [← h0, ← h1, ← h2, ← hf]
  exact congr (congrArg List.cons rfl) (congr (congrArg List.cons rfl) (congr (congrArg List.cons rfl) (congr (congrArg List.cons rfl) (congr (congrArg List.cons (congrArg Vl.l h4.symm)) (congr (congrArg List.cons (congrArg Vl.l h5.symm)) (congr (congrArg List.cons (congrArg Vl.l h6.symm)) (congr (congrArg List.cons (congrArg Vl.l h7.symm)) (congr (congrArg List.cons (congrArg Vl.l h8.symm)) rfl))))))))

end Go.Proofs.YtkjoojamkbpfcabGreat

