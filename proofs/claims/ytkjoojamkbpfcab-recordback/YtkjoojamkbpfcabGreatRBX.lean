/- Proved: the law RecordBack answers true for every tap, delta, entry, account, list of outages and tariff, and its arguments read afterwards as they read before. No condition but the form's own reach. -/
import Derived.Test.YtkjoojamkbpfcabGreatPX
import Derived.Test.YtkjoojamkbpfcabGreatNX
import Derived.Test.YtkjoojamkbpfcabGreatNU
import Derived.Test.YtkjoojamkbpfcabGreatLX
import Derived.Test.YtkjoojamkbpfcabGreatQRX
import Derived.Deep.Cut
import Derived.Test.YtkjoojamkbpfcabGreatO1
import Derived.Test.YtkjoojamkbpfcabGreatOX
/- Whole records, written and read: what they come to, of all kinds. -/
namespace Go.Proofs.YtkjoojamkbpfcabGreat
open Go.RowKit

section
variable {A : Type}
/-- A record out of bytes; its bytes. -/
def rdG (is : List It) (of : List Vl → A) (bad : A → Int) (Z : A) (bs : List UInt8) : A × Int × Int :=
  if (endR (rdI bs is s0).2 bs.length).c ≠ 0 then (Z, (endR (rdI bs is s0).2 bs.length).c, (endR (rdI bs is s0).2 bs.length).f)
  else if bad (of (rdI bs is s0).1) = 0 then (of (rdI bs is s0).1, 0, 0) else (Z, bad (of (rdI bs is s0).1), -1)
def wrG (is : List It) (vs : A → List Vl) (bad : A → Int) (x : A) : List UInt8 × Int :=
  if bad x = 0 then ((wrI is (vs x)).getD [], codeOf (wrI is (vs x))) else ([], bad x)

theorem code_zero {o : Option (List UInt8)} (h : codeOf o = 0) : ∃ l, o = some l := by
  cases o with
  | none => simp [codeOf] at h
  | some l => exact ⟨l, rfl⟩

theorem gen_wrote {is : List It} {vs : A → List Vl} {bad : A → Int} {x : A} (h : (wrG is vs bad x).2 = 0) : bad x = 0 ∧ wrI is (vs x) = some (wrG is vs bad x).1 := by
  unfold wrG at h ⊢
  by_cases hb : bad x = 0
  · rw [if_pos hb] at h ⊢
    obtain ⟨l, hl⟩ := code_zero h
    exact ⟨hb, by rw [hl]; rfl⟩
  · rw [if_neg hb] at h
    exact absurd h hb

theorem gen_back {is : List It} {vs : A → List Vl} {of : List Vl → A} {bad : A → Int} {Z : A} {x : A} (h : (wrG is vs bad x).2 = 0) (hb : of (vs x) = x) (hf : bad x = 0 → FitsI is (vs x)) :
    rdG is of bad Z (wrG is vs bad x).1 = (x, 0, 0) ∧ (∀ b, rdG is of bad Z ((wrG is vs bad x).1 ++ [b]) = (Z, 13, ((wrG is vs bad x).1.length : Int))) ∧ ∀ n, n < (wrG is vs bad x).1.length → (rdG is of bad Z ((wrG is vs bad x).1.take n)).2.1 = 10 := by
  obtain ⟨h0, hw⟩ := gen_wrote h
  generalize (wrG is vs bad x).1 = l at hw ⊢
  have hF := hf h0
  refine ⟨?_, fun b => ?_, fun n hn => ?_⟩
  · obtain ⟨e1, e2⟩ := whole_back hF hw
    unfold rdG
    rw [if_neg (by rw [e2]; simp), e1, hb, if_pos h0]
  · obtain ⟨e1, e2⟩ := whole_more b hF hw
    unfold rdG
    rw [if_pos (by rw [e1]; decide), e1, e2]
  · have e1 := whole_short n hn hF hw
    unfold rdG
    rw [if_pos (by rw [e1]; decide)]
    exact e1

theorem gen_form {is : List It} {vs : A → List Vl} {of : List Vl → A} {bad : A → Int} {Z : A} {bs : List UInt8} (h : (rdG is of bad Z bs).2.1 = 0) (hv : vs (of (rdI bs is s0).1) = (rdI bs is s0).1) :
    wrG is vs bad (rdG is of bad Z bs).1 = (bs, 0) ∧ rdG is of bad Z bs = (of (rdI bs is s0).1, 0, 0) := by
  unfold rdG at h ⊢
  by_cases hc : (endR (rdI bs is s0).2 bs.length).c = 0
  · rw [if_neg (by rw [hc]; simp)] at h ⊢
    by_cases hb : bad (of (rdI bs is s0).1) = 0
    · rw [if_pos hb]
      refine ⟨?_, rfl⟩
      unfold wrG
      simp only
      rw [if_pos hb, hv, whole_form hc]
      rfl
    · rw [if_neg hb] at h
      exact absurd h hb
  · rw [if_pos hc] at h
    exact absurd h hc

theorem if_ok {B : Type} (ok : A → Bool) (E : A → Int) (hE : ∀ x, E x = if ok x then 0 else 80) (x : A) (p q : B) : (if ok x then p else q) = if E x = 0 then p else q := by
  rw [hE x]
  cases ok x <;> simp
theorem if_ok2 {B : Type} (ok : A → Bool) (E : A → Int) (hE : ∀ x, E x = if ok x then 0 else 80) (x : A) (p : B) (q : Int → B) : (if ok x then p else q 80) = if E x = 0 then p else q (E x) := by
  rw [hE x]
  cases ok x <;> simp
end

/- taps -/
def tapI : List It := [.l tapK]
def tapV (t : Tp) : List Vl := [.l (tpC t).toList]
def tapG : List Vl → Tp
  | [.l v] => tapOf v
  | _ => tapZ
theorem tapW_G (t : Tp) : tapW t = wrG tapI tapV tapE t := by
  unfold tapW wrG
  rw [if_ok2 tapOk tapE (fun _ => rfl) t ((tapB t).getD [], codeOf (tapB t)) (fun e => (([] : List UInt8), e))]
  have e : wrI tapI (tapV t) = tapB t := stepW_nil _
  rw [e]
theorem tapRd_G (bs : List UInt8) : tapRd bs = rdG tapI tapG tapE tapZ bs := by
  unfold tapRd rdG
  rw [if_ok2 tapOk tapE (fun _ => rfl) (tapOf (rdL bs tapK s00).1) (tapOf (rdL bs tapK s00).1, (0 : Int), (0 : Int)) (fun e => (tapZ, e, (-1 : Int)))]
  rfl
theorem tap_in {t : Tp} (h : tapE t = 0) : FitsI tapI (tapV t) := by
  have hk : tapOk t = true := by
    unfold tapE at h
    split at h
    · assumption
    · simp at h
  simp only [tapOk, Bool.and_eq_true, isIn_iff] at hk
  have hm : mostPlace t.kind ≤ 65535 := by unfold mostPlace; split <;> omega
  refine ⟨⟨?_, ?_, trivial, ?_, ?_, ?_, trivial⟩, trivial⟩ <;> simp only [Kd.fits] <;> omega
theorem tap_back {t : Tp} (h : (tapW t).2 = 0) : tapRd (tapW t).1 = (t, 0, 0) ∧ (∀ b, tapRd ((tapW t).1 ++ [b]) = (tapZ, 13, ((tapW t).1.length : Int))) ∧ ∀ n, n < (tapW t).1.length → (tapRd ((tapW t).1.take n)).2.1 = 10 := by
  rw [tapW_G] at h ⊢
  simp only [tapRd_G]
  exact gen_back h rfl tap_in
theorem tap_form {bs : List UInt8} (h : (tapRd bs).2.1 = 0) : tapW (tapRd bs).1 = (bs, 0) := by
  rw [tapRd_G] at h ⊢
  rw [tapW_G]
  exact (gen_form h (by show [Vl.l _] = [Vl.l _]; exact congrArg (fun x => [Vl.l x]) (tap_shape bs s00).symm)).1
theorem tap_len {t : Tp} (h : (tapW t).2 = 0) : (tapW t).1.length = 21 := by
  rw [tapW_G] at h ⊢
  obtain ⟨_, hw⟩ := gen_wrote h
  generalize (wrG tapI tapV tapE t).1 = l at hw ⊢
  obtain ⟨x, y, h1, h2, rfl⟩ := stepW_split (show stepW (wrL tapK (tpC t).toList) (some []) = some l from hw)
  injection h2 with h2
  subst h2
  simp only [List.append_nil]
  obtain ⟨x1, y1, a1, b1, rfl⟩ := stepW_split (show stepW (Kd.w _ _) (wrL [.num 4, .fix 8, .num 1, .num 2, .num 4] _) = some x from h1)
  obtain ⟨x2, y2, a2, b2, rfl⟩ := stepW_split (show stepW (Kd.w _ _) (wrL [.fix 8, .num 1, .num 2, .num 4] _) = some y1 from b1)
  obtain ⟨x3, y3, a3, b3, rfl⟩ := stepW_split (show stepW (Kd.w _ _) (wrL [.num 1, .num 2, .num 4] _) = some y2 from b2)
  obtain ⟨x4, y4, a4, b4, rfl⟩ := stepW_split (show stepW (Kd.w _ _) (wrL [.num 2, .num 4] _) = some y3 from b3)
  obtain ⟨x5, y5, a5, b5, rfl⟩ := stepW_split (show stepW (Kd.w _ _) (wrL [.num 4] _) = some y4 from b4)
  obtain ⟨x6, y6, a6, b6, rfl⟩ := stepW_split (show stepW (Kd.w _ _) (some []) = some y5 from b5)
  injection b6 with b6
  subst b6
  have k1 := Kd.w_length a1
  have k2 := Kd.w_length a2
  have k3 := Kd.w_length a3
  have k4 := Kd.w_length a4
  have k5 := Kd.w_length a5
  have k6 := Kd.w_length a6
  simp only [Kd.n] at k1 k2 k3 k4 k5 k6
  simp only [List.length_append, List.length_nil, k1, k2, k3, k4, k5, k6]

/- entries -/
def entryI : List It := [.l entryK]
def entryV (t : En) : List Vl := [.l (enC t).toList]
def entryG : List Vl → En
  | [.l v] => entryOf v
  | _ => entryZ
theorem entryW_G (t : En) : entryW t = wrG entryI entryV entryE t := by
  unfold entryW wrG
  rw [if_ok2 entryOk entryE (fun _ => rfl) t ((entryB t).getD [], codeOf (entryB t)) (fun e => (([] : List UInt8), e))]
  have e : wrI entryI (entryV t) = entryB t := stepW_nil _
  rw [e]
theorem entryRd_G (bs : List UInt8) : entryRd bs = rdG entryI entryG entryE entryZ bs := by
  unfold entryRd rdG
  rw [if_ok2 entryOk entryE (fun _ => rfl) (entryOf (rdL bs entryK s00).1) (entryOf (rdL bs entryK s00).1, (0 : Int), (0 : Int)) (fun e => (entryZ, e, (-1 : Int)))]
  rfl
theorem entry_in {t : En} (h : entryE t = 0) : FitsI entryI (entryV t) := by
  have hk : entryOk t = true := by
    unfold entryE at h
    split at h
    · assumption
    · simp at h
  simp only [entryOk, Bool.and_eq_true, isIn_iff] at hk
  refine ⟨⟨?_, trivial, ?_, trivial, trivial⟩, trivial⟩ <;> simp only [Kd.fits] <;> omega
theorem entry_back {t : En} (h : (entryW t).2 = 0) : entryRd (entryW t).1 = (t, 0, 0) := by
  rw [entryW_G] at h ⊢
  simp only [entryRd_G]
  exact (gen_back h rfl entry_in).1
theorem entry_form {bs : List UInt8} (h : (entryRd bs).2.1 = 0) : entryW (entryRd bs).1 = (bs, 0) := by
  rw [entryRd_G] at h ⊢
  rw [entryW_G]
  exact (gen_form h (by show [Vl.l _] = [Vl.l _]; exact congrArg (fun x => [Vl.l x]) (entry_shape bs s00).symm)).1

/- accounts -/
def accountI : List It := [.l accountK]
def accountV (t : Ac) : List Vl := [.l (acC t).toList]
def accountG : List Vl → Ac
  | [.l v] => accountOf v
  | _ => accountZ
theorem accountW_G (t : Ac) : accountW t = wrG accountI accountV accountE t := by
  unfold accountW wrG
  rw [if_ok2 accountOk accountE (fun _ => rfl) t ((accountB t).getD [], codeOf (accountB t)) (fun e => (([] : List UInt8), e))]
  have e : wrI accountI (accountV t) = accountB t := stepW_nil _
  rw [e]
theorem accountRd_G (bs : List UInt8) : accountRd bs = rdG accountI accountG accountE accountZ bs := by
  unfold accountRd rdG
  rw [if_ok2 accountOk accountE (fun _ => rfl) (accountOf (rdL bs accountK s00).1) (accountOf (rdL bs accountK s00).1, (0 : Int), (0 : Int)) (fun e => (accountZ, e, (-1 : Int)))]
  rfl
theorem account_in {t : Ac} (h : accountE t = 0) : FitsI accountI (accountV t) := by
  have hk : accountOk t = true := by
    unfold accountE at h
    split at h
    · assumption
    · simp at h
  simp only [accountOk, Bool.and_eq_true, isIn_iff] at hk
  refine ⟨⟨trivial, ?_, ?_, trivial⟩, trivial⟩ <;> simp only [Kd.fits] <;> omega
theorem account_back {t : Ac} (h : (accountW t).2 = 0) : accountRd (accountW t).1 = (t, 0, 0) := by
  rw [accountW_G] at h ⊢
  simp only [accountRd_G]
  exact (gen_back h rfl account_in).1
theorem account_form {bs : List UInt8} (h : (accountRd bs).2.1 = 0) : accountW (accountRd bs).1 = (bs, 0) := by
  rw [accountRd_G] at h ⊢
  rw [accountW_G]
  exact (gen_form h (by show [Vl.l _] = [Vl.l _]; exact congrArg (fun x => [Vl.l x]) (account_shape bs s00).symm)).1

theorem map_back {A : Type} (C : A → List Value) (f : List Value → A) (h : ∀ x, f (C x) = x) (l : List A) : (l.map C).map f = l := by
  rw [List.map_map]
  have : f ∘ C = id := funext h
  rw [this, List.map_id]

/- deltas -/
def deltaI : List It := [.l (List.replicate 1 (.num 8)), .m 1000 tokenK, .m 1000 tokenK]
def deltaV (d : Dl) : List Vl := [.l ([d.ver].map (Value.int .i64)), .m (d.add.map tkC), .m (d.gone.map tkC)]
def deltaG : List Vl → Dl
  | [.l v, .m a, .m b] => ⟨numOf (v.getD 0 undef), a.map tokOf, b.map tokOf⟩
  | _ => deltaZ
theorem deltaW_G (d : Dl) : deltaW d = wrG deltaI deltaV deltaE d := by
  unfold deltaW wrG
  rw [if_ok2 deltaOk deltaE (fun _ => rfl) d ((deltaB d).getD [], codeOf (deltaB d)) (fun e => (([] : List UInt8), e))]
  have e : wrI deltaI (deltaV d) = deltaB d := by
    show stepW _ (stepW _ (stepW _ (some []))) = _
    unfold deltaB
    rw [stepW_nil, stepW_some, stepW_assoc]
    rfl
  rw [e]
theorem deltaRd_G (bs : List UInt8) : deltaRd bs = rdG deltaI deltaG deltaE deltaZ bs := by
  unfold deltaRd rdG
  rw [if_ok2 deltaOk deltaE (fun _ => rfl) (deltaOf bs s00) (deltaOf bs s00, (0 : Int), (0 : Int)) (fun e => (deltaZ, e, (-1 : Int)))]
  rfl
theorem delta_in {d : Dl} (hv : d.ver ≤ 9223372036854775807) (h : deltaE d = 0) : FitsI deltaI (deltaV d) := by
  have hk : deltaOk d = true := by
    unfold deltaE at h
    split at h
    · assumption
    · simp at h
  simp only [deltaOk, Bool.and_eq_true] at hk
  have h1 := listOk_len hk.1.1.2
  have h2 := listOk_len hk.1.2
  refine ⟨⟨hv, trivial⟩, ⟨fun r hr => ?_, by simpa using h1⟩, ⟨fun r hr => ?_, by simpa using h2⟩, trivial⟩
  · obtain ⟨x, _, rfl⟩ := List.mem_map.1 hr
    exact ⟨trivial, trivial⟩
  · obtain ⟨x, _, rfl⟩ := List.mem_map.1 hr
    exact ⟨trivial, trivial⟩
theorem delta_back {d : Dl} (hv : d.ver ≤ 9223372036854775807) (h : (deltaW d).2 = 0) : deltaRd (deltaW d).1 = (d, 0, 0) ∧ ∀ n, n < (deltaW d).1.length → (deltaRd ((deltaW d).1.take n)).2.1 = 10 := by
  rw [deltaW_G] at h ⊢
  simp only [deltaRd_G]
  have hb : deltaG (deltaV d) = d := by
    show (⟨d.ver, (d.add.map tkC).map tokOf, (d.gone.map tkC).map tokOf⟩ : Dl) = d
    rw [map_back tkC tokOf (fun _ => rfl), map_back tkC tokOf (fun _ => rfl)]
  exact ⟨(gen_back h hb (delta_in hv)).1, (gen_back h hb (delta_in hv)).2.2⟩
theorem delta_ver (bs : List UInt8) (s : RS) : (deltaOf bs s).ver ≤ 9223372036854775807 := by
  show numOf ((Kd.num 8).rd bs s).1 ≤ _
  unfold Kd.rd stepR
  split
  · split
    · rename_i h
      obtain ⟨n, rfl, hn, _⟩ := form_number h
      exact hn
    · simp [Kd.z, numOf]
  · simp [Kd.z, numOf]
theorem deltaRd_ver (bs : List UInt8) : (deltaRd bs).1.ver ≤ 9223372036854775807 := by
  unfold deltaRd
  split
  · simp [deltaZ]
  split
  · exact delta_ver bs s00
  · simp [deltaZ]
theorem delta_form {bs : List UInt8} (h : (deltaRd bs).2.1 = 0) : deltaW (deltaRd bs).1 = (bs, 0) := by
  rw [deltaRd_G] at h ⊢
  rw [deltaW_G]
  refine (gen_form h ?_).1
  have h0 : (deltaQ0 bs s00).1 = [(deltaOf bs s00).ver].map (Value.int .i64) := by
    have e := (delta_shape bs s00).1
    show [((Kd.num 8).rd bs s00).1] = _
    rw [show ((Kd.num 8).rd bs s00).1 = (deltaQ0 bs s00).1.getD 0 undef from rfl, e]
    rfl
  show [Vl.l ([(deltaOf bs s00).ver].map (Value.int .i64)), Vl.m (((deltaQ1 bs s00).1.map tokOf).map tkC), Vl.m (((deltaQ2 bs s00).1.map tokOf).map tkC)] = [Vl.l (deltaQ0 bs s00).1, Vl.m (deltaQ1 bs s00).1, Vl.m (deltaQ2 bs s00).1]
  rw [h0, ← (show (deltaQ1 bs s00).1 = ((deltaQ1 bs s00).1.map tokOf).map tkC from (tokens_shape bs 1000 _).1), ← (show (deltaQ2 bs s00).1 = ((deltaQ2 bs s00).1.map tokOf).map tkC from (tokens_shape bs 1000 _).1)]

/- outages -/
def outsI : List It := [.m 100 outageK]
def outsV (l : List Otg) : List Vl := [.m (l.map otC)]
def outsG : List Vl → List Otg
  | [.m a] => a.map otOf
  | _ => []
theorem outsW_G (l : List Otg) : outsW l = wrG outsI outsV outsE l := by
  unfold outsW wrG
  rw [if_ok2 outsOk outsE (fun _ => rfl) l ((outsB l).getD [], codeOf (outsB l)) (fun e => (([] : List UInt8), e))]
  have e : wrI outsI (outsV l) = outsB l := by
    show stepW _ (some []) = _
    unfold outsB
    rw [stepW_nil, stepW_some]
    rfl
  rw [e]
theorem outsRd_G (bs : List UInt8) : outsRd bs = rdG outsI outsG outsE [] bs := by
  unfold outsRd rdG
  rw [if_ok2 outsOk outsE (fun _ => rfl) (outsOf bs) (outsOf bs, (0 : Int), (0 : Int)) (fun e => (([] : List Otg), e, (-1 : Int)))]
  rfl
theorem outs_in {l : List Otg} (h : outsE l = 0) : FitsI outsI (outsV l) := by
  have hk : outsOk l = true := by
    unfold outsE at h
    split at h
    · assumption
    · simp at h
  have hs := outs_small l hk
  simp only [outsOk, Bool.and_eq_true, decide_eq_true_eq] at hk
  refine ⟨⟨fun r hr => ?_, by simpa using hk.1⟩, trivial⟩
  obtain ⟨x, hx, rfl⟩ := List.mem_map.1 hr
  have := hs x hx
  exact ⟨this.1, this.2.1, this.2.2, trivial⟩
theorem outs_back {l : List Otg} (h : (outsW l).2 = 0) : outsRd (outsW l).1 = (l, 0, 0) := by
  rw [outsW_G] at h ⊢
  simp only [outsRd_G]
  exact (gen_back h (map_back otC otOf (fun _ => rfl) l) outs_in).1
theorem outs_form {bs : List UInt8} (h : (outsRd bs).2.1 = 0) : outsW (outsRd bs).1 = (bs, 0) := by
  rw [outsRd_G] at h ⊢
  rw [outsW_G]
  refine (gen_form h ?_).1
  show [Vl.m (((rdM bs 100 outageK s00).1.map otOf).map otC)] = [Vl.m (rdM bs 100 outageK s00).1]
  rw [← (outs_shape bs 100 _).1]

/- tariffs -/
def tarI : List It := [.m 200 stationK, .m 45 spanK, .m 8 bandK, .l [.float], .l (List.replicate 3 (.num 4)), .l (List.replicate 1 (.num 2)), .l (List.replicate 1 (.num 4)), .l (List.replicate 4 (.num 2)), .l (List.replicate 1 (.num 4))]
def tarV (t : Tf) : List Vl := [.m (t.st.map stC), .m (t.sp.map spC), .m (t.bd.map bdC), .l [.float .f64 t.off], .l ([t.bus, t.busDaily, t.busWeekly].map (Value.int .i64)), .l ([t.hopper].map (Value.int .i64)), .l ([t.most].map (Value.int .i64)), .l ([t.longest, t.change, t.passback, t.delay].map (Value.int .i64)), .l ([t.threshold].map (Value.int .i64))]
def tarG : List Vl → Tf
  | [.m a, .m b, .m c, .l f, .l q4, .l q5, .l q6, .l q7, .l q8] => ⟨a.map stOf, b.map spOf, c.map bdOf, fltIn (f.getD 0 undef), intIn (q4.getD 0 undef), intIn (q4.getD 1 undef), intIn (q4.getD 2 undef), intIn (q5.getD 0 undef), intIn (q6.getD 0 undef), intIn (q7.getD 0 undef), intIn (q7.getD 1 undef), intIn (q7.getD 2 undef), intIn (q7.getD 3 undef), intIn (q8.getD 0 undef)⟩
  | _ => tarZ
theorem tarW_G (t : Tf) : tarW t = wrG tarI tarV rightE t := by
  unfold tarW wrG
  have e4 : wrL [.float] [.float .f64 t.off] = (Kd.float).w (.float .f64 t.off) := stepW_nil _
  have e : wrI tarI (tarV t) = tarB t := by
    unfold tarB
    simp only [tarI, tarV, wrI, It.wr, e4, stepW_nil, stepW_some, stepW_assoc]
  rw [e]
theorem rdL_one (bs : List UInt8) (k : Kd) (s : RS) : rdL bs [k] s = ([(k.rd bs s).1], (k.rd bs s).2) := rfl
theorem tar_rdI (bs : List UInt8) : rdI bs tarI s0 = ([.m (tariffQ0 bs s00).1, .m (tariffQ1 bs s00).1, .m (tariffQ2 bs s00).1, .l [(tariffQ3 bs s00).1], .l (tariffQ4 bs s00).1, .l (tariffQ5 bs s00).1, .l (tariffQ6 bs s00).1, .l (tariffQ7 bs s00).1, .l (tariffQ8 bs s00).1], tariffS9 bs s00) := by
  show rdI bs tarI s00 = _
  simp only [tarI, rdI, It.rd, rdL_one, tariffS9, tariffQ8, tariffS8, tariffQ7, tariffS7, tariffQ6, tariffS6, tariffQ5, tariffS5, tariffQ4, tariffS4, tariffQ3, tariffS3, tariffQ2, tariffS2, tariffQ1, tariffS1, tariffQ0]
theorem tarRd_G (bs : List UInt8) : tarRd bs = rdG tarI tarG rightE tarZ bs := by
  unfold tarRd rdG
  rw [tar_rdI]
  have e : tarG [.m (tariffQ0 bs s00).1, .m (tariffQ1 bs s00).1, .m (tariffQ2 bs s00).1, .l [(tariffQ3 bs s00).1], .l (tariffQ4 bs s00).1, .l (tariffQ5 bs s00).1, .l (tariffQ6 bs s00).1, .l (tariffQ7 bs s00).1, .l (tariffQ8 bs s00).1] = tarOf bs s00 := rfl
  simp only [e]
theorem tar_in {t : Tf} (h : rightE t = 0) : FitsI tarI (tarV t) := by
  have hS := small_of h
  have hnan : nanB t.off = false := by
    unfold nanB
    have hs := hS.off
    rw [show FloatKind.f64.format.order t.off t.off = some .eq from order_self (by omega) (by omega)]
    rfl
  refine ⟨⟨fun r hr => ?_, by simpa using hS.lS⟩, ⟨fun r hr => ?_, by simpa using hS.lP⟩, ⟨fun r hr => ?_, by simpa using hS.lB⟩, ⟨⟨by have := hS.off; omega, hnan⟩, trivial⟩, ⟨?_, ?_, ?_, trivial⟩, ⟨?_, trivial⟩, ⟨?_, trivial⟩, ⟨?_, ?_, ?_, ?_, trivial⟩, ⟨?_, trivial⟩, trivial⟩
  · obtain ⟨x, hx, rfl⟩ := List.mem_map.1 hr
    have := hS.st x hx
    refine ⟨?_, ?_, ?_, trivial⟩ <;> simp only [Kd.fits] <;> omega
  · obtain ⟨x, hx, rfl⟩ := List.mem_map.1 hr
    have := hS.sp x hx
    refine ⟨?_, ?_, ?_, ?_, ?_, trivial⟩ <;> simp only [Kd.fits] <;> omega
  · obtain ⟨x, hx, rfl⟩ := List.mem_map.1 hr
    have := hS.bd x hx
    refine ⟨?_, ?_, trivial⟩ <;> simp only [Kd.fits] <;> omega
  · have := hS.bus; simp only [Kd.fits]; omega
  · have := hS.busDaily; simp only [Kd.fits]; omega
  · have := hS.busWeekly; simp only [Kd.fits]; omega
  · have := hS.hopper; simp only [Kd.fits]; omega
  · have := hS.most; simp only [Kd.fits]; omega
  · have := hS.longest; simp only [Kd.fits]; omega
  · have := hS.change; simp only [Kd.fits]; omega
  · have := hS.passback; simp only [Kd.fits]; omega
  · have := hS.delay; simp only [Kd.fits]; omega
  · have := hS.threshold; simp only [Kd.fits]; omega
theorem tar_back {t : Tf} (h : (tarW t).2 = 0) : tarRd (tarW t).1 = (t, 0, 0) ∧ (∀ b, tarRd ((tarW t).1 ++ [b]) = (tarZ, 13, ((tarW t).1.length : Int))) ∧ ∀ n, n < (tarW t).1.length → (tarRd ((tarW t).1.take n)).2.1 = 10 := by
  rw [tarW_G] at h ⊢
  simp only [tarRd_G]
  refine gen_back h ?_ tar_in
  show (⟨(t.st.map stC).map stOf, (t.sp.map spC).map spOf, (t.bd.map bdC).map bdOf, t.off, t.bus, t.busDaily, t.busWeekly, t.hopper, t.most, t.longest, t.change, t.passback, t.delay, t.threshold⟩ : Tf) = t
  rw [map_back stC stOf (fun _ => rfl), map_back spC spOf (fun _ => rfl), map_back bdC bdOf (fun _ => rfl)]
theorem nums1 (bs : List UInt8) (k : Nat) (s : RS) : (rdL bs (List.replicate 1 (.num k)) s).1 = [intIn ((rdL bs (List.replicate 1 (.num k)) s).1.getD 0 undef)].map (Value.int .i64) := by
  have h := rdL_has bs (List.replicate 1 (.num k)) s
  generalize (rdL bs (List.replicate 1 (.num k)) s).1 = vs at h ⊢
  match vs, h with
  | [v0], ⟨⟨_, e0⟩, _⟩ => subst e0; rfl
theorem nums3 (bs : List UInt8) (k : Nat) (s : RS) : (rdL bs (List.replicate 3 (.num k)) s).1 = [intIn ((rdL bs (List.replicate 3 (.num k)) s).1.getD 0 undef), intIn ((rdL bs (List.replicate 3 (.num k)) s).1.getD 1 undef), intIn ((rdL bs (List.replicate 3 (.num k)) s).1.getD 2 undef)].map (Value.int .i64) := by
  have h := rdL_has bs (List.replicate 3 (.num k)) s
  generalize (rdL bs (List.replicate 3 (.num k)) s).1 = vs at h ⊢
  match vs, h with
  | [v0, v1, v2], ⟨⟨_, e0⟩, ⟨_, e1⟩, ⟨_, e2⟩, _⟩ => subst e0 e1 e2; rfl
theorem nums4 (bs : List UInt8) (k : Nat) (s : RS) : (rdL bs (List.replicate 4 (.num k)) s).1 = [intIn ((rdL bs (List.replicate 4 (.num k)) s).1.getD 0 undef), intIn ((rdL bs (List.replicate 4 (.num k)) s).1.getD 1 undef), intIn ((rdL bs (List.replicate 4 (.num k)) s).1.getD 2 undef), intIn ((rdL bs (List.replicate 4 (.num k)) s).1.getD 3 undef)].map (Value.int .i64) := by
  have h := rdL_has bs (List.replicate 4 (.num k)) s
  generalize (rdL bs (List.replicate 4 (.num k)) s).1 = vs at h ⊢
  match vs, h with
  | [v0, v1, v2, v3], ⟨⟨_, e0⟩, ⟨_, e1⟩, ⟨_, e2⟩, ⟨_, e3⟩, _⟩ => subst e0 e1 e2 e3; rfl
theorem tar_form {bs : List UInt8} (h : (tarRd bs).2.1 = 0) : tarW (tarRd bs).1 = (bs, 0) := by
  rw [tarRd_G] at h ⊢
  rw [tarW_G]
  refine (gen_form h ?_).1
  have hf : [(tariffQ3 bs s00).1] = [.float .f64 (fltIn (tariffQ3 bs s00).1)] := congrArg (fun x => [x]) (flt_shape bs _).1
  have h0 : (tariffQ0 bs s00).1 = ((tariffQ0 bs s00).1.map stOf).map stC := (sts_shape bs 200 _).1
  have h1 : (tariffQ1 bs s00).1 = ((tariffQ1 bs s00).1.map spOf).map spC := (sps_shape bs 45 _).1
  have h2 : (tariffQ2 bs s00).1 = ((tariffQ2 bs s00).1.map bdOf).map bdC := (bds_shape bs 8 _).1
  have h4 := nums3 bs 4 (tariffS4 bs s00)
  have h5 := nums1 bs 2 (tariffS5 bs s00)
  have h6 := nums1 bs 4 (tariffS6 bs s00)
  have h7 := nums4 bs 2 (tariffS7 bs s00)
  have h8 := nums1 bs 4 (tariffS8 bs s00)
  show [Vl.m (((tariffQ0 bs s00).1.map stOf).map stC), Vl.m (((tariffQ1 bs s00).1.map spOf).map spC), Vl.m (((tariffQ2 bs s00).1.map bdOf).map bdC), Vl.l [.float .f64 (fltIn (tariffQ3 bs s00).1)], Vl.l _, Vl.l _, Vl.l _, Vl.l _, Vl.l _] = [Vl.m (tariffQ0 bs s00).1, Vl.m (tariffQ1 bs s00).1, Vl.m (tariffQ2 bs s00).1, Vl.l [(tariffQ3 bs s00).1], Vl.l (tariffQ4 bs s00).1, Vl.l (tariffQ5 bs s00).1, Vl.l (tariffQ6 bs s00).1, Vl.l (tariffQ7 bs s00).1, Vl.l (tariffQ8 bs s00).1]
  rw [← h0, ← h1, ← h2, ← hf]
  exact congr (congrArg List.cons rfl) (congr (congrArg List.cons rfl) (congr (congrArg List.cons rfl) (congr (congrArg List.cons rfl) (congr (congrArg List.cons (congrArg Vl.l h4.symm)) (congr (congrArg List.cons (congrArg Vl.l h5.symm)) (congr (congrArg List.cons (congrArg Vl.l h6.symm)) (congr (congrArg List.cons (congrArg Vl.l h7.symm)) (congr (congrArg List.cons (congrArg Vl.l h8.symm)) rfl))))))))

end Go.Proofs.YtkjoojamkbpfcabGreat

/- The walk of the law RecordBack. -/
namespace Go.Proofs.YtkjoojamkbpfcabGreat
open Go.RowKit
attribute [local go_sem] run_store_float

theorem neqFault (w : World) (a b : Int) : (binOp .neq 44 (.agg #[.int .i64 a, .int .i64 b]) (.agg #[.int .i64 a, .int .i64 b])).run Tryz.prog w = .ok (.bool false) w := by
  rw [run_neq_struct, eqFault]
  simp [Result.andThen]
theorem neqTap (w : World) (a b d e f : Int) (c : ByteArray) : (binOp .neq 23 (.agg #[.int .i64 a, .int .i64 b, .string c, .int .i64 d, .int .i64 e, .int .i64 f]) (.agg #[.int .i64 a, .int .i64 b, .string c, .int .i64 d, .int .i64 e, .int .i64 f])).run Tryz.prog w = .ok (.bool false) w := by
  rw [run_neq_struct, eqTap]
  simp [Result.andThen]
theorem neqEntry (w : World) (a c : Int) (b : ByteArray) (d : Bool) : (binOp .neq 28 (.agg #[.int .i64 a, .string b, .int .i64 c, .bool d]) (.agg #[.int .i64 a, .string b, .int .i64 c, .bool d])).run Tryz.prog w = .ok (.bool false) w := by
  rw [run_neq_struct, eqEntry]
  simp [Result.andThen]
theorem neqAccount (w : World) (b c : Int) (a : ByteArray) : (binOp .neq 30 (.agg #[.string a, .int .i64 b, .int .i64 c]) (.agg #[.string a, .int .i64 b, .int .i64 c])).run Tryz.prog w = .ok (.bool false) w := by
  rw [run_neq_struct, eqAccount]
  simp [Result.andThen]
theorem zero_byte (w : World) (t : TypeId) (i : Nat) (hi : i < ([0] : List UInt8).length) : (w.alloc (.cells #[.int .u8 0] t)).cell? ⟨w.heap.size, 0 + i, none⟩ = some (.int .u8 (([0] : List UInt8)[i].toNat)) := by
  match i, hi with
  | 0, _ => simp
theorem tar_nil2 {p : Tf} (h : (tarW p).2 ≠ 0) : (tarW p).1 = [] := by
  unfold tarW at h ⊢
  split
  · rename_i hr
    rw [if_pos hr] at h
    cases hb : tarB p with
    | none => rfl
    | some l => rw [hb] at h; exact absurd rfl h
  · rfl
theorem row_lt {w : World} {ao : Option Addr} {cap g : Nat} {bs : List UInt8} (h : Row w (.slice ao bs.length cap) g bs) (hc : 0 < cap) : g < w.heap.size := by
  obtain ⟨ao', cap', e, h1, h2, h3, h4⟩ := h.shape
  injection e with e1 e2 e3
  subst e1 e3
  obtain ⟨k1, _⟩ := h4 0 hc
  obtain ⟨v, hv⟩ := Option.isSome_iff_exists.1 k1
  exact World.block_lt_of_cell? _ _ hv

/-- The boxes of what was handed in; all that was is as it was. -/
structure BK (w v : World) (M B1 B2 B3 B4 B6 : Nat) (c1 c2 c3 c4 c6 : Array Value) : Prop where
  fr : Fr (fun _ => False) w v
  lo : w.heap.size ≤ M
  sz : M ≤ v.heap.size
  b1 : Bx v B1 c1 23
  b2 : Bx v B2 c2 26
  b3 : Bx v B3 c3 28
  b4 : Bx v B4 c4 30
  b6 : Bx v B6 c6 37
  lt : B1 < M ∧ B2 < M ∧ B3 < M ∧ B4 < M ∧ B6 < M
theorem BK.go {S : Nat → Prop} {w v v' : World} {M B1 B2 B3 B4 B6 : Nat} {c1 c2 c3 c4 c6 : Array Value} (h : BK w v M B1 B2 B3 B4 B6 c1 c2 c3 c4 c6) (hf : Fr S v v') (hS : ∀ q, S q → M ≤ q) : BK w v' M B1 B2 B3 B4 B6 c1 c2 c3 c4 c6 := by
  obtain ⟨l1, l2, l3, l4, l6⟩ := h.lt
  have h1 := h.lo
  exact ⟨h.fr.trans hf (fun q hq t => by have := hS q t; omega), h.lo, Nat.le_trans h.sz hf.size, h.b1.frame hf (fun t => by have := hS _ t; omega), h.b2.frame hf (fun t => by have := hS _ t; omega), h.b3.frame hf (fun t => by have := hS _ t; omega), h.b4.frame hf (fun t => by have := hS _ t; omega), h.b6.frame hf (fun t => by have := hS _ t; omega), h.lt⟩
theorem BK.keep {w v v' : World} {M B1 B2 B3 B4 B6 : Nat} {c1 c2 c3 c4 c6 : Array Value} (h : BK w v M B1 B2 B3 B4 B6 c1 c2 c3 c4 c6) (hf : Fr (fun _ => False) v v') : BK w v' M B1 B2 B3 B4 B6 c1 c2 c3 c4 c6 := h.go hf (fun _ t => t.elim)

set_option maxHeartbeats 16000000 in
set_option maxRecDepth 100000 in
theorem back_walk8 (w : World) (t : Tp) (d : Dl) (a1 : Option Addr) (c1 : Nat) (a2 : Option Addr) (c2 : Nat) (hd : DIn w d a1 c1 a2 c2) (m : En) (n : Ac) (l : List Otg) (la : Option Addr) (lc : Nat) (hl : OIn w l la lc) (hl2 : (l.length + 1) * 24 ≤ 140737488355328) (A : Ad) (p : Tf) (hp : TAt w A p) :
    Calls Tryz.prog 3 #[.agg (tpC t), .agg (dlC d a1 c1 a2 c2), .agg (enC m), .agg (acC n), .slice la l.length lc, tv A p] w fun e w' => e = .returned (.bool true) ∧ Fr (fun _ => False) w w' := by
  obtain ⟨i0, hi, hz0, hz1, hz2⟩ := info_parts Tryz.info5
  have HI := hide (And.intro hi (And.intro hz0 (And.intro hz1 hz2)))
  clear hi hz0 hz1 hz2
  have W1 := hide (fun (w : World) => recTap_any t w)
  have W2 := hide (fun (w : World) h => recDelta_any d w a1 c1 a2 c2 h)
  have W3 := hide (fun (w : World) => recEntry_any m w)
  have W4 := hide (fun (w : World) => recAccount_any n w)
  have W5 := hide (fun (w : World) h => recOutages_any l w la lc h)
  have W6 := hide (fun (w : World) h => recTariff_any p A w h)
  have F1 := hide (fun (h : (tapW t).2 = 0) => And.intro (tap_back h).1 (And.intro ((tap_back h).2.1 0) (tap_len h)))
  have F2 := hide (fun (h : (deltaW d).2 = 0) => (delta_back hd.ver h).1)
  have F3 := hide (fun (h : (entryW m).2 = 0) => entry_back h)
  have F4 := hide (fun (h : (accountW n).2 = 0) => account_back h)
  have F5 := hide (fun (h : (outsW l).2 = 0) => outs_back h)
  have F6 := hide (fun (h : (tarW p).2 = 0) => And.intro (tar_back h).1 ((tar_back h).2.1 0))
  have F7 := hide (fun (h : (tarW p).2 ≠ 0) => tar_nil2 h)
  have L1 := hide (tapW_le t)
  have L2 := hide (deltaW_le d)
  have L3 := hide (entryW_le m)
  have L4 := hide (accountW_le n)
  have L5 := hide (outsW_le l)
  have L6 := hide (tarW_le p)
  generalize tapW t = r1 at *
  generalize deltaW d = r2 at *
  generalize entryW m = r3 at *
  generalize accountW n = r4 at *
  generalize outsW l = r5 at *
  generalize tarW p = r6 at *
  obtain ⟨x1, k1⟩ := r1
  obtain ⟨x2, k2⟩ := r2
  obtain ⟨x3, k3⟩ := r3
  obtain ⟨x4, k4⟩ := r4
  obtain ⟨x5, k5⟩ := r5
  obtain ⟨x6, k6⟩ := r6
  have HD := hide hd
  have HO := hide (And.intro hl hl2)
  have HT := hide hp
  unfold tpC at W1 ⊢
  unfold dlC at W2 ⊢
  unfold enC at W3 ⊢
  unfold acC at W4 ⊢
  unfold tv tc at W6 ⊢
  simp only at W1 W2 W3 W4 W5 W6 F1 F2 F3 F4 F5 F6 F7 L1 L2 L3 L4 L5 L6
  have R1 := hide (fun (w : World) ao cap bs h => readTap_any w ao cap bs h)
  have R2 := hide (fun (w : World) ao cap bs h => readDelta_any w ao cap bs h)
  have R3 := hide (fun (w : World) ao cap bs h => readEntry_any w ao cap bs h)
  have R4 := hide (fun (w : World) ao cap bs h => readAccount_any w ao cap bs h)
  have R5 := hide (fun (w : World) ao cap bs h => readOutages_any w ao cap bs h)
  have R6 := hide (fun (w : World) ao cap bs h => readTariff_any w ao cap bs h)
  unfold ReadTap tpC at R1
  unfold ReadDelta dlC at R2
  unfold ReadEntry enC at R3
  unfold ReadAccount acC at R4
  unfold ReadOuts at R5
  unfold ReadTariff tv tc at R6
  have SD := hide (fun (w : World) b1 e1 b2 e2 h1 h2 h3 h4 => sameDelta_is w d b1 e1 b2 e2 a1 c1 a2 c2 h1 h2 h3 h4 hd.l1 hd.l2)
  have SO := hide (fun (w : World) b1 e1 h1 h2 => sameOutages_is w l b1 e1 la lc h1 h2 hl2)
  have SP := hide (fun (w : World) A2 h1 h2 => same_anyT w A2 A p h1 h2)
  unfold dlC at SD
  unfold tv tc at SP
  have hEF := eqFault
  have hNF := neqFault
  have hNT := neqTap
  have hNE := neqEntry
  have hNA := neqAccount
  clear hd hp hl hl2
  go_enter Tryz.func3, Tryz.ntmps3
  go_wp2_with fail
  refine (awake_any _).mono ?_
  rintro e v0 ⟨rfl, hF⟩
  obtain ⟨M, HM⟩ : ∃ M, Hid ((((((w.alloc (.cells #[.int .i64 t.dev, .int .i64 t.ctr, .string t.tok, .int .i64 t.kind, .int .i64 t.place, .int .i64 t.time] 23)).alloc (.cells #[.int .i64 d.ver, .slice a1 d.add.length c1, .slice a2 d.gone.length c2] 26)).alloc (.cells #[.int .i64 m.run, .string m.tok, .int .i64 m.amount, .bool m.paid] 28)).alloc (.cells #[.string n.tok, .int .i64 n.charged, .int .i64 n.paid] 30)).alloc (.cells #[.slice A.aS p.st.length A.cS, .slice A.aP p.sp.length A.cP, .slice A.aB p.bd.length A.cB, .float .f64 p.off, .int .i64 p.bus, .int .i64 p.busDaily, .int .i64 p.busWeekly, .int .i64 p.hopper, .int .i64 p.most, .int .i64 p.longest, .int .i64 p.change, .int .i64 p.passback, .int .i64 p.delay, .int .i64 p.threshold] 37)).heap.size = M) := ⟨_, rfl⟩
  have HX0 : Hid (BK w v0 M w.heap.size (w.heap.size + 1) (w.heap.size + 1 + 1) (w.heap.size + 1 + 1 + 1) (w.heap.size + 1 + 1 + 1 + 1) #[.int .i64 t.dev, .int .i64 t.ctr, .string t.tok, .int .i64 t.kind, .int .i64 t.place, .int .i64 t.time] #[.int .i64 d.ver, .slice a1 d.add.length c1, .slice a2 d.gone.length c2] #[.int .i64 m.run, .string m.tok, .int .i64 m.amount, .bool m.paid] #[.string n.tok, .int .i64 n.charged, .int .i64 n.paid] #[.slice A.aS p.st.length A.cS, .slice A.aP p.sp.length A.cP, .slice A.aB p.bd.length A.cB, .float .f64 p.off, .int .i64 p.bus, .int .i64 p.busDaily, .int .i64 p.busWeekly, .int .i64 p.hopper, .int .i64 p.most, .int .i64 p.longest, .int .i64 p.change, .int .i64 p.passback, .int .i64 p.delay, .int .i64 p.threshold]) := hide (by
    have h1 := ((((((Bx.new w #[.int .i64 t.dev, .int .i64 t.ctr, .string t.tok, .int .i64 t.kind, .int .i64 t.place, .int .i64 t.time] 23).alloc (.cells #[.int .i64 d.ver, .slice a1 d.add.length c1, .slice a2 d.gone.length c2] 26)).alloc (.cells #[.int .i64 m.run, .string m.tok, .int .i64 m.amount, .bool m.paid] 28)).alloc (.cells #[.string n.tok, .int .i64 n.charged, .int .i64 n.paid] 30)).alloc (.cells #[.slice A.aS p.st.length A.cS, .slice A.aP p.sp.length A.cP, .slice A.aB p.bd.length A.cB, .float .f64 p.off, .int .i64 p.bus, .int .i64 p.busDaily, .int .i64 p.busWeekly, .int .i64 p.hopper, .int .i64 p.most, .int .i64 p.longest, .int .i64 p.change, .int .i64 p.passback, .int .i64 p.delay, .int .i64 p.threshold] 37))).keep hF
    have h2 := (((((Bx.new (w.alloc (.cells #[.int .i64 t.dev, .int .i64 t.ctr, .string t.tok, .int .i64 t.kind, .int .i64 t.place, .int .i64 t.time] 23)) #[.int .i64 d.ver, .slice a1 d.add.length c1, .slice a2 d.gone.length c2] 26).alloc (.cells #[.int .i64 m.run, .string m.tok, .int .i64 m.amount, .bool m.paid] 28)).alloc (.cells #[.string n.tok, .int .i64 n.charged, .int .i64 n.paid] 30)).alloc (.cells #[.slice A.aS p.st.length A.cS, .slice A.aP p.sp.length A.cP, .slice A.aB p.bd.length A.cB, .float .f64 p.off, .int .i64 p.bus, .int .i64 p.busDaily, .int .i64 p.busWeekly, .int .i64 p.hopper, .int .i64 p.most, .int .i64 p.longest, .int .i64 p.change, .int .i64 p.passback, .int .i64 p.delay, .int .i64 p.threshold] 37))).keep hF
    rw [heap_alloc] at h2
    have h3 := ((((Bx.new ((w.alloc (.cells #[.int .i64 t.dev, .int .i64 t.ctr, .string t.tok, .int .i64 t.kind, .int .i64 t.place, .int .i64 t.time] 23)).alloc (.cells #[.int .i64 d.ver, .slice a1 d.add.length c1, .slice a2 d.gone.length c2] 26)) #[.int .i64 m.run, .string m.tok, .int .i64 m.amount, .bool m.paid] 28).alloc (.cells #[.string n.tok, .int .i64 n.charged, .int .i64 n.paid] 30)).alloc (.cells #[.slice A.aS p.st.length A.cS, .slice A.aP p.sp.length A.cP, .slice A.aB p.bd.length A.cB, .float .f64 p.off, .int .i64 p.bus, .int .i64 p.busDaily, .int .i64 p.busWeekly, .int .i64 p.hopper, .int .i64 p.most, .int .i64 p.longest, .int .i64 p.change, .int .i64 p.passback, .int .i64 p.delay, .int .i64 p.threshold] 37))).keep hF
    rw [heap_alloc, heap_alloc] at h3
    have h4 := (((Bx.new (((w.alloc (.cells #[.int .i64 t.dev, .int .i64 t.ctr, .string t.tok, .int .i64 t.kind, .int .i64 t.place, .int .i64 t.time] 23)).alloc (.cells #[.int .i64 d.ver, .slice a1 d.add.length c1, .slice a2 d.gone.length c2] 26)).alloc (.cells #[.int .i64 m.run, .string m.tok, .int .i64 m.amount, .bool m.paid] 28)) #[.string n.tok, .int .i64 n.charged, .int .i64 n.paid] 30).alloc (.cells #[.slice A.aS p.st.length A.cS, .slice A.aP p.sp.length A.cP, .slice A.aB p.bd.length A.cB, .float .f64 p.off, .int .i64 p.bus, .int .i64 p.busDaily, .int .i64 p.busWeekly, .int .i64 p.hopper, .int .i64 p.most, .int .i64 p.longest, .int .i64 p.change, .int .i64 p.passback, .int .i64 p.delay, .int .i64 p.threshold] 37))).keep hF
    rw [heap_alloc, heap_alloc, heap_alloc] at h4
    have h6 := ((Bx.new ((((w.alloc (.cells #[.int .i64 t.dev, .int .i64 t.ctr, .string t.tok, .int .i64 t.kind, .int .i64 t.place, .int .i64 t.time] 23)).alloc (.cells #[.int .i64 d.ver, .slice a1 d.add.length c1, .slice a2 d.gone.length c2] 26)).alloc (.cells #[.int .i64 m.run, .string m.tok, .int .i64 m.amount, .bool m.paid] 28)).alloc (.cells #[.string n.tok, .int .i64 n.charged, .int .i64 n.paid] 30)) #[.slice A.aS p.st.length A.cS, .slice A.aP p.sp.length A.cP, .slice A.aB p.bd.length A.cB, .float .f64 p.off, .int .i64 p.bus, .int .i64 p.busDaily, .int .i64 p.busWeekly, .int .i64 p.hopper, .int .i64 p.most, .int .i64 p.longest, .int .i64 p.change, .int .i64 p.passback, .int .i64 p.delay, .int .i64 p.threshold] 37)).keep hF
    rw [heap_alloc, heap_alloc, heap_alloc, heap_alloc] at h6
    have hM := unhide HM
    rw [heap_alloc, heap_alloc, heap_alloc, heap_alloc, heap_alloc] at hM
    have hs := hF.size
    rw [heap_alloc, heap_alloc, heap_alloc, heap_alloc, heap_alloc] at hs
    exact ⟨((((((Fr.refl _ w).alloc _).alloc _).alloc _).alloc _).alloc _).trans hF (fun _ _ t => t), by omega, by omega, h1, h2, h3, h4, h6, by omega⟩)
  obtain ⟨B1, HB⟩ : ∃ B, Hid (w.heap.size = B) := ⟨_, rfl⟩
  rw [unhide HB] at HX0 ⊢
  clear HB
  obtain ⟨B2, HB⟩ : ∃ B, Hid (B1 + 1 = B) := ⟨_, rfl⟩
  rw [unhide HB] at HX0 ⊢
  clear HB
  obtain ⟨B3, HB⟩ : ∃ B, Hid (B2 + 1 = B) := ⟨_, rfl⟩
  rw [unhide HB] at HX0 ⊢
  clear HB
  obtain ⟨B4, HB⟩ : ∃ B, Hid (B3 + 1 = B) := ⟨_, rfl⟩
  rw [unhide HB] at HX0 ⊢
  clear HB
  obtain ⟨B6, HB⟩ : ∃ B, Hid (B4 + 1 = B) := ⟨_, rfl⟩
  rw [unhide HB] at HX0 ⊢
  clear HB HM hF
  have q0 : v0.cell? ⟨B1, 0, none⟩ = some (.int .i64 t.dev) := (unhide HX0).b1.cell 0
  have q1 : v0.cell? ⟨B1, 1, none⟩ = some (.int .i64 t.ctr) := (unhide HX0).b1.cell 1
  have q2 : v0.cell? ⟨B1, 2, none⟩ = some (.string t.tok) := (unhide HX0).b1.cell 2
  have q3 : v0.cell? ⟨B1, 3, none⟩ = some (.int .i64 t.kind) := (unhide HX0).b1.cell 3
  have q4 : v0.cell? ⟨B1, 4, none⟩ = some (.int .i64 t.place) := (unhide HX0).b1.cell 4
  have q5 : v0.cell? ⟨B1, 5, none⟩ = some (.int .i64 t.time) := (unhide HX0).b1.cell 5
  go_wp2_with fail
  refine (unhide W1 _).mono ?_
  rintro e u1 ⟨ao, cap, gb, rfl, hrow, hnew, hF⟩
  have HU : Hid (BK w u1 M B1 B2 B3 B4 B6 #[.int .i64 t.dev, .int .i64 t.ctr, .string t.tok, .int .i64 t.kind, .int .i64 t.place, .int .i64 t.time] #[.int .i64 d.ver, .slice a1 d.add.length c1, .slice a2 d.gone.length c2] #[.int .i64 m.run, .string m.tok, .int .i64 m.amount, .bool m.paid] #[.string n.tok, .int .i64 n.charged, .int .i64 n.paid] #[.slice A.aS p.st.length A.cS, .slice A.aP p.sp.length A.cP, .slice A.aB p.bd.length A.cB, .float .f64 p.off, .int .i64 p.bus, .int .i64 p.busDaily, .int .i64 p.busWeekly, .int .i64 p.hopper, .int .i64 p.most, .int .i64 p.longest, .int .i64 p.change, .int .i64 p.passback, .int .i64 p.delay, .int .i64 p.threshold]) := hide ((unhide HX0).keep hF)
  have HR : Hid (Row u1 (.slice ao x1.length cap) gb x1 ∧ (0 < cap → M ≤ gb)) := hide ⟨hrow, fun hc => Nat.le_trans (unhide HX0).sz (hnew hc)⟩
  clear hrow hnew hF HX0 q0 q1 q2 q3 q4 q5
  go_upto_if 42 with (fail)
  go_cut [14, 15] from 35 (fun _ _ wc => BK w wc M B1 B2 B3 B4 B6 #[.int .i64 t.dev, .int .i64 t.ctr, .string t.tok, .int .i64 t.kind, .int .i64 t.place, .int .i64 t.time] #[.int .i64 d.ver, .slice a1 d.add.length c1, .slice a2 d.gone.length c2] #[.int .i64 m.run, .string m.tok, .int .i64 m.amount, .bool m.paid] #[.string n.tok, .int .i64 n.charged, .int .i64 n.paid] #[.slice A.aS p.st.length A.cS, .slice A.aP p.sp.length A.cP, .slice A.aB p.bd.length A.cB, .float .f64 p.off, .int .i64 p.bus, .int .i64 p.busDaily, .int .i64 p.busWeekly, .int .i64 p.hopper, .int .i64 p.most, .int .i64 p.longest, .int .i64 p.change, .int .i64 p.passback, .int .i64 p.delay, .int .i64 p.threshold])
  case first =>
    by_cases hk : k1 = 0
    · subst hk
      as_aux_lemma =>
        have G := hide (unhide F1 rfl)
        have R := hide (unhide R1 u1 ao cap x1 ((unhide HR).1.bin (by have := unhide L1; omega)))
        rw [(unhide G).1] at R
        simp only at R
        go_wp2_with fail
        refine (unhide R).mono ?_
        rintro e u9 ⟨rfl, hF⟩
        have HP : Hid ((BK w ((u9.alloc (.cells #[.int .i64 t.dev, .int .i64 t.ctr, .string t.tok, .int .i64 t.kind, .int .i64 t.place, .int .i64 t.time] 23)).alloc (.cells #[.int .i64 0, .int .i64 0] 44)) M B1 B2 B3 B4 B6 #[.int .i64 t.dev, .int .i64 t.ctr, .string t.tok, .int .i64 t.kind, .int .i64 t.place, .int .i64 t.time] #[.int .i64 d.ver, .slice a1 d.add.length c1, .slice a2 d.gone.length c2] #[.int .i64 m.run, .string m.tok, .int .i64 m.amount, .bool m.paid] #[.string n.tok, .int .i64 n.charged, .int .i64 n.paid] #[.slice A.aS p.st.length A.cS, .slice A.aP p.sp.length A.cP, .slice A.aB p.bd.length A.cB, .float .f64 p.off, .int .i64 p.bus, .int .i64 p.busDaily, .int .i64 p.busWeekly, .int .i64 p.hopper, .int .i64 p.most, .int .i64 p.longest, .int .i64 p.change, .int .i64 p.passback, .int .i64 p.delay, .int .i64 p.threshold]) ∧ (Row ((u9.alloc (.cells #[.int .i64 t.dev, .int .i64 t.ctr, .string t.tok, .int .i64 t.kind, .int .i64 t.place, .int .i64 t.time] 23)).alloc (.cells #[.int .i64 0, .int .i64 0] 44)) (.slice ao x1.length cap) gb x1 ∧ (0 < cap → M ≤ gb ∧ gb < u9.heap.size)) ∧ Bx ((u9.alloc (.cells #[.int .i64 t.dev, .int .i64 t.ctr, .string t.tok, .int .i64 t.kind, .int .i64 t.place, .int .i64 t.time] 23)).alloc (.cells #[.int .i64 0, .int .i64 0] 44)) (u9.heap.size + 1) #[.int .i64 0, .int .i64 0] 44 ∧ Bx ((u9.alloc (.cells #[.int .i64 t.dev, .int .i64 t.ctr, .string t.tok, .int .i64 t.kind, .int .i64 t.place, .int .i64 t.time] 23)).alloc (.cells #[.int .i64 0, .int .i64 0] 44)) u9.heap.size #[.int .i64 t.dev, .int .i64 t.ctr, .string t.tok, .int .i64 t.kind, .int .i64 t.place, .int .i64 t.time] 23) := hide (by
          have h2 := Bx.new (u9.alloc (.cells #[.int .i64 t.dev, .int .i64 t.ctr, .string t.tok, .int .i64 t.kind, .int .i64 t.place, .int .i64 t.time] 23)) #[.int .i64 0, .int .i64 0] 44
          rw [heap_alloc] at h2
          exact ⟨(unhide HU).keep ((hF.alloc _).alloc _), ⟨(unhide HR).1.frame ((hF.alloc _).alloc _) (fun t => t), fun hc => ⟨(unhide HR).2 hc, Nat.lt_of_lt_of_le (row_lt (unhide HR).1 hc) hF.size⟩⟩, h2, (Bx.new _ _ _).alloc _⟩)
        clear R hF
        go_upto_region 5 with (fail)
        generalize ((u9.alloc (.cells #[.int .i64 t.dev, .int .i64 t.ctr, .string t.tok, .int .i64 t.kind, .int .i64 t.place, .int .i64 t.time] 23)).alloc (.cells #[.int .i64 0, .int .i64 0] 44)) = t9 at *
        obtain ⟨Fb, HFb⟩ : ∃ B, Hid (u9.heap.size + 1 = B) := ⟨_, rfl⟩
        rw [unhide HFb] at HP ⊢
        obtain ⟨Rb, HRb⟩ : ∃ B, Hid (u9.heap.size = B) := ⟨_, rfl⟩
        rw [unhide HRb] at HP ⊢
        have HLT : Hid (Rb < Fb ∧ Fb < t9.heap.size) := hide ⟨by have := unhide HFb; have := unhide HRb; omega, (unhide HP).2.2.1.lt⟩
        have hSR := src_slice Tryz.underlying39 (t9.alloc (.cells #[.int .u8 0] 5)) (some ⟨t9.heap.size, 0, none⟩) 1 [0] (fun _ => ⟨t9.heap.size, 0, rfl, fun i hi1 => zero_byte t9 _ i hi1⟩)
        have HSR := hide hSR
        clear hSR
        go_wp2_with (at_builtin; refine wpList_append_row _ rfl (.tmp 49) (.tmp 50) 39 39 rfl 5 i0 Tryz.underlying39 (unhide HI).1 (unhide HI).2.1 (unhide HI).2.2.1 (unhide HI).2.2.2 (g := gb) (bs := x1) (cap := cap) rfl ((unhide HP).2.1.1.stay (fun hx => Below.heap_alloc t9 _ _ hx)) _ [0] rfl (unhide HSR) ?_ ?_)
        · have := unhide L1
          simp only [List.length_cons, List.length_nil]
          omega
        intro ao2 cap2 u7 g7 hrow hfr hg
        have HP7 : Hid ((BK w u7 M B1 B2 B3 B4 B6 #[.int .i64 t.dev, .int .i64 t.ctr, .string t.tok, .int .i64 t.kind, .int .i64 t.place, .int .i64 t.time] #[.int .i64 d.ver, .slice a1 d.add.length c1, .slice a2 d.gone.length c2] #[.int .i64 m.run, .string m.tok, .int .i64 m.amount, .bool m.paid] #[.string n.tok, .int .i64 n.charged, .int .i64 n.paid] #[.slice A.aS p.st.length A.cS, .slice A.aP p.sp.length A.cP, .slice A.aB p.bd.length A.cB, .float .f64 p.off, .int .i64 p.bus, .int .i64 p.busDaily, .int .i64 p.busWeekly, .int .i64 p.hopper, .int .i64 p.most, .int .i64 p.longest, .int .i64 p.change, .int .i64 p.passback, .int .i64 p.delay, .int .i64 p.threshold]) ∧ Row u7 (.slice ao2 (x1 ++ [0]).length cap2) g7 (x1 ++ [0]) ∧ Bx u7 Fb #[.int .i64 0, .int .i64 0] 44 ∧ Bx u7 Rb #[.int .i64 t.dev, .int .i64 t.ctr, .string t.tok, .int .i64 t.kind, .int .i64 t.place, .int .i64 t.time] 23) := hide (by
          obtain ⟨p1, ⟨p2, p3⟩, p4, p5⟩ := unhide HP
          have hl := unhide HLT
          have h9 := unhide HRb
          refine ⟨(p1.keep ((Fr.refl (fun _ => False) t9).alloc _)).go hfr (fun q hq => by have := p3 hq.2; omega), by rw [List.length_append]; exact hrow, (p4.alloc _).frame hfr (fun hq => by have := p3 hq.2; omega), (p5.alloc _).frame hfr (fun hq => by have := p3 hq.2; omega)⟩)
        have R := hide (unhide R1 u7 ao2 cap2 (x1 ++ [0]) ((unhide HP7).2.1.bin (by have := unhide L1; rw [List.length_append]; simp only [List.length_cons, List.length_nil]; omega)))
        rw [(unhide G).2.1, List.length_append] at R
        simp only [List.length_cons, List.length_nil, Nat.zero_add] at R
        clear hrow hfr hg HP HSR
        go_wp2_with fail
        refine (unhide R).mono ?_
        rintro e u8 ⟨rfl, hF⟩
        have HQ : Hid ((BK w ((u8.alloc (.cells #[.int .i64 0, .int .i64 0, .string ⟨#[]⟩, .int .i64 0, .int .i64 0, .int .i64 0] 23)).alloc (.cells #[.int .i64 13, .int .i64 (x1.length : Int)] 44)) M B1 B2 B3 B4 B6 #[.int .i64 t.dev, .int .i64 t.ctr, .string t.tok, .int .i64 t.kind, .int .i64 t.place, .int .i64 t.time] #[.int .i64 d.ver, .slice a1 d.add.length c1, .slice a2 d.gone.length c2] #[.int .i64 m.run, .string m.tok, .int .i64 m.amount, .bool m.paid] #[.string n.tok, .int .i64 n.charged, .int .i64 n.paid] #[.slice A.aS p.st.length A.cS, .slice A.aP p.sp.length A.cP, .slice A.aB p.bd.length A.cB, .float .f64 p.off, .int .i64 p.bus, .int .i64 p.busDaily, .int .i64 p.busWeekly, .int .i64 p.hopper, .int .i64 p.most, .int .i64 p.longest, .int .i64 p.change, .int .i64 p.passback, .int .i64 p.delay, .int .i64 p.threshold]) ∧ Bx ((u8.alloc (.cells #[.int .i64 0, .int .i64 0, .string ⟨#[]⟩, .int .i64 0, .int .i64 0, .int .i64 0] 23)).alloc (.cells #[.int .i64 13, .int .i64 (x1.length : Int)] 44)) Fb #[.int .i64 0, .int .i64 0] 44 ∧ Bx ((u8.alloc (.cells #[.int .i64 0, .int .i64 0, .string ⟨#[]⟩, .int .i64 0, .int .i64 0, .int .i64 0] 23)).alloc (.cells #[.int .i64 13, .int .i64 (x1.length : Int)] 44)) Rb #[.int .i64 t.dev, .int .i64 t.ctr, .string t.tok, .int .i64 t.kind, .int .i64 t.place, .int .i64 t.time] 23 ∧ Bx ((u8.alloc (.cells #[.int .i64 0, .int .i64 0, .string ⟨#[]⟩, .int .i64 0, .int .i64 0, .int .i64 0] 23)).alloc (.cells #[.int .i64 13, .int .i64 (x1.length : Int)] 44)) (u8.heap.size + 1) #[.int .i64 13, .int .i64 (x1.length : Int)] 44) := hide (by
          have h2 := Bx.new (u8.alloc (.cells #[.int .i64 0, .int .i64 0, .string ⟨#[]⟩, .int .i64 0, .int .i64 0, .int .i64 0] 23)) #[.int .i64 13, .int .i64 (x1.length : Int)] 44
          rw [heap_alloc] at h2
          obtain ⟨p1, p2, p3, p4⟩ := unhide HP7
          exact ⟨p1.keep ((hF.alloc _).alloc _), p3.keep ((hF.alloc _).alloc _), p4.keep ((hF.alloc _).alloc _), h2⟩)
        clear R hF HP7
        unfold tapZ
        go_upto_region 6 with (fail)
        generalize ((u8.alloc (.cells #[.int .i64 0, .int .i64 0, .string ⟨#[]⟩, .int .i64 0, .int .i64 0, .int .i64 0] 23)).alloc (.cells #[.int .i64 13, .int .i64 (x1.length : Int)] 44)) = t8 at *
        obtain ⟨Gb, HGb⟩ : ∃ B, Hid (u8.heap.size + 1 = B) := ⟨_, rfl⟩
        rw [unhide HGb] at HQ ⊢
        have h21 : x1.length = 21 := (unhide G).2.2
        rw [h21] at HQ ⊢
        have y0 : t8.cell? ⟨Fb, 0, none⟩ = some (.int .i64 0) := (unhide HQ).2.1.cell 0
        have y1 : t8.cell? ⟨Fb, 1, none⟩ = some (.int .i64 0) := (unhide HQ).2.1.cell 1
        have g0 : t8.cell? ⟨Gb, 0, none⟩ = some (.int .i64 13) := (unhide HQ).2.2.2.cell 0
        have g1 : t8.cell? ⟨Gb, 1, none⟩ = some (.int .i64 21) := (unhide HQ).2.2.2.cell 1
        have q0 : t8.cell? ⟨Rb, 0, none⟩ = some (.int .i64 t.dev) := (unhide HQ).2.2.1.cell 0
        have q1 : t8.cell? ⟨Rb, 1, none⟩ = some (.int .i64 t.ctr) := (unhide HQ).2.2.1.cell 1
        have q2 : t8.cell? ⟨Rb, 2, none⟩ = some (.string t.tok) := (unhide HQ).2.2.1.cell 2
        have q3 : t8.cell? ⟨Rb, 3, none⟩ = some (.int .i64 t.kind) := (unhide HQ).2.2.1.cell 3
        have q4 : t8.cell? ⟨Rb, 4, none⟩ = some (.int .i64 t.place) := (unhide HQ).2.2.1.cell 4
        have q5 : t8.cell? ⟨Rb, 5, none⟩ = some (.int .i64 t.time) := (unhide HQ).2.2.1.cell 5
        have s0 : t8.cell? ⟨B1, 0, none⟩ = some (.int .i64 t.dev) := (unhide HQ).1.b1.cell 0
        have s1 : t8.cell? ⟨B1, 1, none⟩ = some (.int .i64 t.ctr) := (unhide HQ).1.b1.cell 1
        have s2 : t8.cell? ⟨B1, 2, none⟩ = some (.string t.tok) := (unhide HQ).1.b1.cell 2
        have s3 : t8.cell? ⟨B1, 3, none⟩ = some (.int .i64 t.kind) := (unhide HQ).1.b1.cell 3
        have s4 : t8.cell? ⟨B1, 4, none⟩ = some (.int .i64 t.place) := (unhide HQ).1.b1.cell 4
        have s5 : t8.cell? ⟨B1, 5, none⟩ = some (.int .i64 t.time) := (unhide HQ).1.b1.cell 5
        go_wp2
        go_meet
        case rel => exact (unhide HQ).1
    · have hkb : (k1 == 0) = false := by simp [hk]
      go_wp2
      go_meet
      case rel => exact unhide HU
  case rest =>
    obtain ⟨v1, hv⟩ : ∃ v, v = wc := ⟨_, rfl⟩
    subst hv
    have HX1 := hide hcut
    clear hcut HU HR W1 F1 R1 L1
    have q0 : v1.cell? ⟨B2, 0, none⟩ = some (.int .i64 d.ver) := (unhide HX1).b2.cell 0
    have q1 : v1.cell? ⟨B2, 1, none⟩ = some (.slice a1 d.add.length c1) := (unhide HX1).b2.cell 1
    have q2 : v1.cell? ⟨B2, 2, none⟩ = some (.slice a2 d.gone.length c2) := (unhide HX1).b2.cell 2
    go_wp2_with fail
    refine (unhide W2 _ ((unhide HD).keep (unhide HX1).fr)).mono ?_
    rintro e u2 ⟨ao, cap, gb, rfl, hrow, hnew, hF⟩
    have HU : Hid (BK w u2 M B1 B2 B3 B4 B6 #[.int .i64 t.dev, .int .i64 t.ctr, .string t.tok, .int .i64 t.kind, .int .i64 t.place, .int .i64 t.time] #[.int .i64 d.ver, .slice a1 d.add.length c1, .slice a2 d.gone.length c2] #[.int .i64 m.run, .string m.tok, .int .i64 m.amount, .bool m.paid] #[.string n.tok, .int .i64 n.charged, .int .i64 n.paid] #[.slice A.aS p.st.length A.cS, .slice A.aP p.sp.length A.cP, .slice A.aB p.bd.length A.cB, .float .f64 p.off, .int .i64 p.bus, .int .i64 p.busDaily, .int .i64 p.busWeekly, .int .i64 p.hopper, .int .i64 p.most, .int .i64 p.longest, .int .i64 p.change, .int .i64 p.passback, .int .i64 p.delay, .int .i64 p.threshold]) := hide ((unhide HX1).keep hF)
    have HR : Hid (Row u2 (.slice ao x2.length cap) gb x2 ∧ (0 < cap → M ≤ gb)) := hide ⟨hrow, fun hc => Nat.le_trans (unhide HX1).sz (hnew hc)⟩
    clear hrow hnew hF HX1 q0 q1 q2
    go_upto_if 79 with (fail)
    go_cut [14, 15] from 35 (fun _ _ wc => BK w wc M B1 B2 B3 B4 B6 #[.int .i64 t.dev, .int .i64 t.ctr, .string t.tok, .int .i64 t.kind, .int .i64 t.place, .int .i64 t.time] #[.int .i64 d.ver, .slice a1 d.add.length c1, .slice a2 d.gone.length c2] #[.int .i64 m.run, .string m.tok, .int .i64 m.amount, .bool m.paid] #[.string n.tok, .int .i64 n.charged, .int .i64 n.paid] #[.slice A.aS p.st.length A.cS, .slice A.aP p.sp.length A.cP, .slice A.aB p.bd.length A.cB, .float .f64 p.off, .int .i64 p.bus, .int .i64 p.busDaily, .int .i64 p.busWeekly, .int .i64 p.hopper, .int .i64 p.most, .int .i64 p.longest, .int .i64 p.change, .int .i64 p.passback, .int .i64 p.delay, .int .i64 p.threshold])
    case first =>
      by_cases hk : k2 = 0
      · subst hk
        as_aux_lemma =>
          have G := hide (unhide F2 rfl)
          have R := hide (unhide R2 u2 ao cap x2 ((unhide HR).1.bin (by have := unhide L2; omega)))
          rw [unhide G] at R
          simp only at R
          go_wp2_with fail
          refine (unhide R).mono ?_
          rintro e u9 ⟨b1, e1, g1, b2, e2, g2, rfl, hN, hF⟩
          have HP : Hid ((BK w ((u9.alloc (.cells #[.int .i64 d.ver, .slice b1 d.add.length e1, .slice b2 d.gone.length e2] 26)).alloc (.cells #[.int .i64 0, .int .i64 0] 44)) M B1 B2 B3 B4 B6 #[.int .i64 t.dev, .int .i64 t.ctr, .string t.tok, .int .i64 t.kind, .int .i64 t.place, .int .i64 t.time] #[.int .i64 d.ver, .slice a1 d.add.length c1, .slice a2 d.gone.length c2] #[.int .i64 m.run, .string m.tok, .int .i64 m.amount, .bool m.paid] #[.string n.tok, .int .i64 n.charged, .int .i64 n.paid] #[.slice A.aS p.st.length A.cS, .slice A.aP p.sp.length A.cP, .slice A.aB p.bd.length A.cB, .float .f64 p.off, .int .i64 p.bus, .int .i64 p.busDaily, .int .i64 p.busWeekly, .int .i64 p.hopper, .int .i64 p.most, .int .i64 p.longest, .int .i64 p.change, .int .i64 p.passback, .int .i64 p.delay, .int .i64 p.threshold]) ∧ (Row ((u9.alloc (.cells #[.int .i64 d.ver, .slice b1 d.add.length e1, .slice b2 d.gone.length e2] 26)).alloc (.cells #[.int .i64 0, .int .i64 0] 44)) (.slice ao x2.length cap) gb x2 ∧ (0 < cap → M ≤ gb ∧ gb < u9.heap.size)) ∧ Bx ((u9.alloc (.cells #[.int .i64 d.ver, .slice b1 d.add.length e1, .slice b2 d.gone.length e2] 26)).alloc (.cells #[.int .i64 0, .int .i64 0] 44)) (u9.heap.size + 1) #[.int .i64 0, .int .i64 0] 44 ∧ Bx ((u9.alloc (.cells #[.int .i64 d.ver, .slice b1 d.add.length e1, .slice b2 d.gone.length e2] 26)).alloc (.cells #[.int .i64 0, .int .i64 0] 44)) u9.heap.size #[.int .i64 d.ver, .slice b1 d.add.length e1, .slice b2 d.gone.length e2] 26 ∧ CAt ((u9.alloc (.cells #[.int .i64 d.ver, .slice b1 d.add.length e1, .slice b2 d.gone.length e2] 26)).alloc (.cells #[.int .i64 0, .int .i64 0] 44)) b1 (tkV d.add) ∧ CAt ((u9.alloc (.cells #[.int .i64 d.ver, .slice b1 d.add.length e1, .slice b2 d.gone.length e2] 26)).alloc (.cells #[.int .i64 0, .int .i64 0] 44)) b2 (tkV d.gone)) := hide (by
            have h2 := Bx.new (u9.alloc (.cells #[.int .i64 d.ver, .slice b1 d.add.length e1, .slice b2 d.gone.length e2] 26)) #[.int .i64 0, .int .i64 0] 44
            rw [heap_alloc] at h2
            exact ⟨(unhide HU).keep ((hF.alloc _).alloc _), ⟨(unhide HR).1.frame ((hF.alloc _).alloc _) (fun t => t), fun hc => ⟨(unhide HR).2 hc, Nat.lt_of_lt_of_le (row_lt (unhide HR).1 hc) hF.size⟩⟩, h2, (Bx.new _ _ _).alloc _, (hN.k1.row.catN).keep (((Fr.refl (fun _ => False) u9).alloc _).alloc _), (hN.k2.row.catN).keep (((Fr.refl (fun _ => False) u9).alloc _).alloc _)⟩)
          clear R hF hN
          go_upto_region 11 with (fail)
          generalize ((u9.alloc (.cells #[.int .i64 d.ver, .slice b1 d.add.length e1, .slice b2 d.gone.length e2] 26)).alloc (.cells #[.int .i64 0, .int .i64 0] 44)) = t9 at *
          obtain ⟨Fb, HFb⟩ : ∃ B, Hid (u9.heap.size + 1 = B) := ⟨_, rfl⟩
          rw [unhide HFb] at HP ⊢
          obtain ⟨Rb, HRb⟩ : ∃ B, Hid (u9.heap.size = B) := ⟨_, rfl⟩
          rw [unhide HRb] at HP ⊢
          have q0 : t9.cell? ⟨Rb, 0, none⟩ = some (.int .i64 d.ver) := (unhide HP).2.2.2.1.cell 0
          have q1 : t9.cell? ⟨Rb, 1, none⟩ = some (.slice b1 d.add.length e1) := (unhide HP).2.2.2.1.cell 1
          have q2 : t9.cell? ⟨Rb, 2, none⟩ = some (.slice b2 d.gone.length e2) := (unhide HP).2.2.2.1.cell 2
          have s0 : t9.cell? ⟨B2, 0, none⟩ = some (.int .i64 d.ver) := (unhide HP).1.b2.cell 0
          have s1 : t9.cell? ⟨B2, 1, none⟩ = some (.slice a1 d.add.length c1) := (unhide HP).1.b2.cell 1
          have s2 : t9.cell? ⟨B2, 2, none⟩ = some (.slice a2 d.gone.length c2) := (unhide HP).1.b2.cell 2
          go_wp2_with fail
          refine (unhide SD t9 b1 e1 b2 e2 (cat_sat (unhide HP).2.2.2.2.1) (cat_sat (unhide HP).2.2.2.2.2) (cat_sat ((unhide HD).add.keep (unhide HP).1.fr)) (cat_sat ((unhide HD).gone.keep (unhide HP).1.fr))).mono ?_
          rintro e t8 ⟨rfl, hF⟩
          have HQ : Hid ((BK w t8 M B1 B2 B3 B4 B6 #[.int .i64 t.dev, .int .i64 t.ctr, .string t.tok, .int .i64 t.kind, .int .i64 t.place, .int .i64 t.time] #[.int .i64 d.ver, .slice a1 d.add.length c1, .slice a2 d.gone.length c2] #[.int .i64 m.run, .string m.tok, .int .i64 m.amount, .bool m.paid] #[.string n.tok, .int .i64 n.charged, .int .i64 n.paid] #[.slice A.aS p.st.length A.cS, .slice A.aP p.sp.length A.cP, .slice A.aB p.bd.length A.cB, .float .f64 p.off, .int .i64 p.bus, .int .i64 p.busDaily, .int .i64 p.busWeekly, .int .i64 p.hopper, .int .i64 p.most, .int .i64 p.longest, .int .i64 p.change, .int .i64 p.passback, .int .i64 p.delay, .int .i64 p.threshold]) ∧ Bx t8 Fb #[.int .i64 0, .int .i64 0] 44) := hide ⟨(unhide HP).1.keep hF, (unhide HP).2.2.1.keep hF⟩
          clear hF HP q0 q1 q2 s0 s1 s2
          have y0 : t8.cell? ⟨Fb, 0, none⟩ = some (.int .i64 0) := (unhide HQ).2.cell 0
          have y1 : t8.cell? ⟨Fb, 1, none⟩ = some (.int .i64 0) := (unhide HQ).2.cell 1
          go_wp2
          go_meet
          case rel => exact (unhide HQ).1
      · have hkb : (k2 == 0) = false := by simp [hk]
        go_wp2
        go_meet
        case rel => exact unhide HU
    case rest =>
      obtain ⟨v2, hv⟩ : ∃ v, v = wc := ⟨_, rfl⟩
      subst hv
      have HX2 := hide hcut
      clear hcut HU HR W2 F2 R2 L2
      have q0 : v2.cell? ⟨B3, 0, none⟩ = some (.int .i64 m.run) := (unhide HX2).b3.cell 0
      have q1 : v2.cell? ⟨B3, 1, none⟩ = some (.string m.tok) := (unhide HX2).b3.cell 1
      have q2 : v2.cell? ⟨B3, 2, none⟩ = some (.int .i64 m.amount) := (unhide HX2).b3.cell 2
      have q3 : v2.cell? ⟨B3, 3, none⟩ = some (.bool m.paid) := (unhide HX2).b3.cell 3
      go_wp2_with fail
      refine (unhide W3 _).mono ?_
      rintro e u3 ⟨ao, cap, gb, rfl, hrow, hnew, hF⟩
      have HU : Hid (BK w u3 M B1 B2 B3 B4 B6 #[.int .i64 t.dev, .int .i64 t.ctr, .string t.tok, .int .i64 t.kind, .int .i64 t.place, .int .i64 t.time] #[.int .i64 d.ver, .slice a1 d.add.length c1, .slice a2 d.gone.length c2] #[.int .i64 m.run, .string m.tok, .int .i64 m.amount, .bool m.paid] #[.string n.tok, .int .i64 n.charged, .int .i64 n.paid] #[.slice A.aS p.st.length A.cS, .slice A.aP p.sp.length A.cP, .slice A.aB p.bd.length A.cB, .float .f64 p.off, .int .i64 p.bus, .int .i64 p.busDaily, .int .i64 p.busWeekly, .int .i64 p.hopper, .int .i64 p.most, .int .i64 p.longest, .int .i64 p.change, .int .i64 p.passback, .int .i64 p.delay, .int .i64 p.threshold]) := hide ((unhide HX2).keep hF)
      have HR : Hid (Row u3 (.slice ao x3.length cap) gb x3 ∧ (0 < cap → M ≤ gb)) := hide ⟨hrow, fun hc => Nat.le_trans (unhide HX2).sz (hnew hc)⟩
      clear hrow hnew hF HX2 q0 q1 q2 q3
      go_upto_if 101 with (fail)
      go_cut [14, 15] from 35 (fun _ _ wc => BK w wc M B1 B2 B3 B4 B6 #[.int .i64 t.dev, .int .i64 t.ctr, .string t.tok, .int .i64 t.kind, .int .i64 t.place, .int .i64 t.time] #[.int .i64 d.ver, .slice a1 d.add.length c1, .slice a2 d.gone.length c2] #[.int .i64 m.run, .string m.tok, .int .i64 m.amount, .bool m.paid] #[.string n.tok, .int .i64 n.charged, .int .i64 n.paid] #[.slice A.aS p.st.length A.cS, .slice A.aP p.sp.length A.cP, .slice A.aB p.bd.length A.cB, .float .f64 p.off, .int .i64 p.bus, .int .i64 p.busDaily, .int .i64 p.busWeekly, .int .i64 p.hopper, .int .i64 p.most, .int .i64 p.longest, .int .i64 p.change, .int .i64 p.passback, .int .i64 p.delay, .int .i64 p.threshold])
      case first =>
        by_cases hk : k3 = 0
        · subst hk
          as_aux_lemma =>
            have G := hide (unhide F3 rfl)
            have R := hide (unhide R3 u3 ao cap x3 ((unhide HR).1.bin (by have := unhide L3; omega)))
            rw [unhide G] at R
            simp only at R
            go_wp2_with fail
            refine (unhide R).mono ?_
            rintro e u9 ⟨rfl, hF⟩
            have HP : Hid ((BK w ((u9.alloc (.cells #[.int .i64 m.run, .string m.tok, .int .i64 m.amount, .bool m.paid] 28)).alloc (.cells #[.int .i64 0, .int .i64 0] 44)) M B1 B2 B3 B4 B6 #[.int .i64 t.dev, .int .i64 t.ctr, .string t.tok, .int .i64 t.kind, .int .i64 t.place, .int .i64 t.time] #[.int .i64 d.ver, .slice a1 d.add.length c1, .slice a2 d.gone.length c2] #[.int .i64 m.run, .string m.tok, .int .i64 m.amount, .bool m.paid] #[.string n.tok, .int .i64 n.charged, .int .i64 n.paid] #[.slice A.aS p.st.length A.cS, .slice A.aP p.sp.length A.cP, .slice A.aB p.bd.length A.cB, .float .f64 p.off, .int .i64 p.bus, .int .i64 p.busDaily, .int .i64 p.busWeekly, .int .i64 p.hopper, .int .i64 p.most, .int .i64 p.longest, .int .i64 p.change, .int .i64 p.passback, .int .i64 p.delay, .int .i64 p.threshold]) ∧ (Row ((u9.alloc (.cells #[.int .i64 m.run, .string m.tok, .int .i64 m.amount, .bool m.paid] 28)).alloc (.cells #[.int .i64 0, .int .i64 0] 44)) (.slice ao x3.length cap) gb x3 ∧ (0 < cap → M ≤ gb ∧ gb < u9.heap.size)) ∧ Bx ((u9.alloc (.cells #[.int .i64 m.run, .string m.tok, .int .i64 m.amount, .bool m.paid] 28)).alloc (.cells #[.int .i64 0, .int .i64 0] 44)) (u9.heap.size + 1) #[.int .i64 0, .int .i64 0] 44 ∧ Bx ((u9.alloc (.cells #[.int .i64 m.run, .string m.tok, .int .i64 m.amount, .bool m.paid] 28)).alloc (.cells #[.int .i64 0, .int .i64 0] 44)) u9.heap.size #[.int .i64 m.run, .string m.tok, .int .i64 m.amount, .bool m.paid] 28) := hide (by
              have h2 := Bx.new (u9.alloc (.cells #[.int .i64 m.run, .string m.tok, .int .i64 m.amount, .bool m.paid] 28)) #[.int .i64 0, .int .i64 0] 44
              rw [heap_alloc] at h2
              exact ⟨(unhide HU).keep ((hF.alloc _).alloc _), ⟨(unhide HR).1.frame ((hF.alloc _).alloc _) (fun t => t), fun hc => ⟨(unhide HR).2 hc, Nat.lt_of_lt_of_le (row_lt (unhide HR).1 hc) hF.size⟩⟩, h2, (Bx.new _ _ _).alloc _⟩)
            clear R hF
            go_upto_region 17 with (fail)
            generalize ((u9.alloc (.cells #[.int .i64 m.run, .string m.tok, .int .i64 m.amount, .bool m.paid] 28)).alloc (.cells #[.int .i64 0, .int .i64 0] 44)) = t9 at *
            obtain ⟨Fb, HFb⟩ : ∃ B, Hid (u9.heap.size + 1 = B) := ⟨_, rfl⟩
            rw [unhide HFb] at HP ⊢
            obtain ⟨Rb, HRb⟩ : ∃ B, Hid (u9.heap.size = B) := ⟨_, rfl⟩
            rw [unhide HRb] at HP ⊢
            have y0 : t9.cell? ⟨Fb, 0, none⟩ = some (.int .i64 0) := (unhide HP).2.2.1.cell 0
            have y1 : t9.cell? ⟨Fb, 1, none⟩ = some (.int .i64 0) := (unhide HP).2.2.1.cell 1
            have q0 : t9.cell? ⟨Rb, 0, none⟩ = some (.int .i64 m.run) := (unhide HP).2.2.2.cell 0
            have q1 : t9.cell? ⟨Rb, 1, none⟩ = some (.string m.tok) := (unhide HP).2.2.2.cell 1
            have q2 : t9.cell? ⟨Rb, 2, none⟩ = some (.int .i64 m.amount) := (unhide HP).2.2.2.cell 2
            have q3 : t9.cell? ⟨Rb, 3, none⟩ = some (.bool m.paid) := (unhide HP).2.2.2.cell 3
            have s0 : t9.cell? ⟨B3, 0, none⟩ = some (.int .i64 m.run) := (unhide HP).1.b3.cell 0
            have s1 : t9.cell? ⟨B3, 1, none⟩ = some (.string m.tok) := (unhide HP).1.b3.cell 1
            have s2 : t9.cell? ⟨B3, 2, none⟩ = some (.int .i64 m.amount) := (unhide HP).1.b3.cell 2
            have s3 : t9.cell? ⟨B3, 3, none⟩ = some (.bool m.paid) := (unhide HP).1.b3.cell 3
            go_wp2
            go_meet
            case rel => exact (unhide HP).1
        · have hkb : (k3 == 0) = false := by simp [hk]
          go_wp2
          go_meet
          case rel => exact unhide HU
      case rest =>
        obtain ⟨v3, hv⟩ : ∃ v, v = wc := ⟨_, rfl⟩
        subst hv
        have HX3 := hide hcut
        clear hcut HU HR W3 F3 R3 L3
        have q0 : v3.cell? ⟨B4, 0, none⟩ = some (.string n.tok) := (unhide HX3).b4.cell 0
        have q1 : v3.cell? ⟨B4, 1, none⟩ = some (.int .i64 n.charged) := (unhide HX3).b4.cell 1
        have q2 : v3.cell? ⟨B4, 2, none⟩ = some (.int .i64 n.paid) := (unhide HX3).b4.cell 2
        go_wp2_with fail
        refine (unhide W4 _).mono ?_
        rintro e u4 ⟨ao, cap, gb, rfl, hrow, hnew, hF⟩
        have HU : Hid (BK w u4 M B1 B2 B3 B4 B6 #[.int .i64 t.dev, .int .i64 t.ctr, .string t.tok, .int .i64 t.kind, .int .i64 t.place, .int .i64 t.time] #[.int .i64 d.ver, .slice a1 d.add.length c1, .slice a2 d.gone.length c2] #[.int .i64 m.run, .string m.tok, .int .i64 m.amount, .bool m.paid] #[.string n.tok, .int .i64 n.charged, .int .i64 n.paid] #[.slice A.aS p.st.length A.cS, .slice A.aP p.sp.length A.cP, .slice A.aB p.bd.length A.cB, .float .f64 p.off, .int .i64 p.bus, .int .i64 p.busDaily, .int .i64 p.busWeekly, .int .i64 p.hopper, .int .i64 p.most, .int .i64 p.longest, .int .i64 p.change, .int .i64 p.passback, .int .i64 p.delay, .int .i64 p.threshold]) := hide ((unhide HX3).keep hF)
        have HR : Hid (Row u4 (.slice ao x4.length cap) gb x4 ∧ (0 < cap → M ≤ gb)) := hide ⟨hrow, fun hc => Nat.le_trans (unhide HX3).sz (hnew hc)⟩
        clear hrow hnew hF HX3 q0 q1 q2
        go_upto_if 121 with (fail)
        go_cut [14, 15] from 35 (fun _ _ wc => BK w wc M B1 B2 B3 B4 B6 #[.int .i64 t.dev, .int .i64 t.ctr, .string t.tok, .int .i64 t.kind, .int .i64 t.place, .int .i64 t.time] #[.int .i64 d.ver, .slice a1 d.add.length c1, .slice a2 d.gone.length c2] #[.int .i64 m.run, .string m.tok, .int .i64 m.amount, .bool m.paid] #[.string n.tok, .int .i64 n.charged, .int .i64 n.paid] #[.slice A.aS p.st.length A.cS, .slice A.aP p.sp.length A.cP, .slice A.aB p.bd.length A.cB, .float .f64 p.off, .int .i64 p.bus, .int .i64 p.busDaily, .int .i64 p.busWeekly, .int .i64 p.hopper, .int .i64 p.most, .int .i64 p.longest, .int .i64 p.change, .int .i64 p.passback, .int .i64 p.delay, .int .i64 p.threshold])
        case first =>
          by_cases hk : k4 = 0
          · subst hk
            as_aux_lemma =>
              have G := hide (unhide F4 rfl)
              have R := hide (unhide R4 u4 ao cap x4 ((unhide HR).1.bin (by have := unhide L4; omega)))
              rw [unhide G] at R
              simp only at R
              go_wp2_with fail
              refine (unhide R).mono ?_
              rintro e u9 ⟨rfl, hF⟩
              have HP : Hid ((BK w ((u9.alloc (.cells #[.string n.tok, .int .i64 n.charged, .int .i64 n.paid] 30)).alloc (.cells #[.int .i64 0, .int .i64 0] 44)) M B1 B2 B3 B4 B6 #[.int .i64 t.dev, .int .i64 t.ctr, .string t.tok, .int .i64 t.kind, .int .i64 t.place, .int .i64 t.time] #[.int .i64 d.ver, .slice a1 d.add.length c1, .slice a2 d.gone.length c2] #[.int .i64 m.run, .string m.tok, .int .i64 m.amount, .bool m.paid] #[.string n.tok, .int .i64 n.charged, .int .i64 n.paid] #[.slice A.aS p.st.length A.cS, .slice A.aP p.sp.length A.cP, .slice A.aB p.bd.length A.cB, .float .f64 p.off, .int .i64 p.bus, .int .i64 p.busDaily, .int .i64 p.busWeekly, .int .i64 p.hopper, .int .i64 p.most, .int .i64 p.longest, .int .i64 p.change, .int .i64 p.passback, .int .i64 p.delay, .int .i64 p.threshold]) ∧ (Row ((u9.alloc (.cells #[.string n.tok, .int .i64 n.charged, .int .i64 n.paid] 30)).alloc (.cells #[.int .i64 0, .int .i64 0] 44)) (.slice ao x4.length cap) gb x4 ∧ (0 < cap → M ≤ gb ∧ gb < u9.heap.size)) ∧ Bx ((u9.alloc (.cells #[.string n.tok, .int .i64 n.charged, .int .i64 n.paid] 30)).alloc (.cells #[.int .i64 0, .int .i64 0] 44)) (u9.heap.size + 1) #[.int .i64 0, .int .i64 0] 44 ∧ Bx ((u9.alloc (.cells #[.string n.tok, .int .i64 n.charged, .int .i64 n.paid] 30)).alloc (.cells #[.int .i64 0, .int .i64 0] 44)) u9.heap.size #[.string n.tok, .int .i64 n.charged, .int .i64 n.paid] 30) := hide (by
                have h2 := Bx.new (u9.alloc (.cells #[.string n.tok, .int .i64 n.charged, .int .i64 n.paid] 30)) #[.int .i64 0, .int .i64 0] 44
                rw [heap_alloc] at h2
                exact ⟨(unhide HU).keep ((hF.alloc _).alloc _), ⟨(unhide HR).1.frame ((hF.alloc _).alloc _) (fun t => t), fun hc => ⟨(unhide HR).2 hc, Nat.lt_of_lt_of_le (row_lt (unhide HR).1 hc) hF.size⟩⟩, h2, (Bx.new _ _ _).alloc _⟩)
              clear R hF
              go_upto_region 22 with (fail)
              generalize ((u9.alloc (.cells #[.string n.tok, .int .i64 n.charged, .int .i64 n.paid] 30)).alloc (.cells #[.int .i64 0, .int .i64 0] 44)) = t9 at *
              obtain ⟨Fb, HFb⟩ : ∃ B, Hid (u9.heap.size + 1 = B) := ⟨_, rfl⟩
              rw [unhide HFb] at HP ⊢
              obtain ⟨Rb, HRb⟩ : ∃ B, Hid (u9.heap.size = B) := ⟨_, rfl⟩
              rw [unhide HRb] at HP ⊢
              have y0 : t9.cell? ⟨Fb, 0, none⟩ = some (.int .i64 0) := (unhide HP).2.2.1.cell 0
              have y1 : t9.cell? ⟨Fb, 1, none⟩ = some (.int .i64 0) := (unhide HP).2.2.1.cell 1
              have q0 : t9.cell? ⟨Rb, 0, none⟩ = some (.string n.tok) := (unhide HP).2.2.2.cell 0
              have q1 : t9.cell? ⟨Rb, 1, none⟩ = some (.int .i64 n.charged) := (unhide HP).2.2.2.cell 1
              have q2 : t9.cell? ⟨Rb, 2, none⟩ = some (.int .i64 n.paid) := (unhide HP).2.2.2.cell 2
              have s0 : t9.cell? ⟨B4, 0, none⟩ = some (.string n.tok) := (unhide HP).1.b4.cell 0
              have s1 : t9.cell? ⟨B4, 1, none⟩ = some (.int .i64 n.charged) := (unhide HP).1.b4.cell 1
              have s2 : t9.cell? ⟨B4, 2, none⟩ = some (.int .i64 n.paid) := (unhide HP).1.b4.cell 2
              go_wp2
              go_meet
              case rel => exact (unhide HP).1
          · have hkb : (k4 == 0) = false := by simp [hk]
            go_wp2
            go_meet
            case rel => exact unhide HU
        case rest =>
          obtain ⟨v4, hv⟩ : ∃ v, v = wc := ⟨_, rfl⟩
          subst hv
          have HX4 := hide hcut
          clear hcut HU HR W4 F4 R4 L4
          go_wp2_with fail
          refine (unhide W5 _ ((unhide HO).1.keep (unhide HX4).fr)).mono ?_
          rintro e u5 ⟨ao, cap, gb, rfl, hrow, hnew, hF⟩
          have HU : Hid (BK w u5 M B1 B2 B3 B4 B6 #[.int .i64 t.dev, .int .i64 t.ctr, .string t.tok, .int .i64 t.kind, .int .i64 t.place, .int .i64 t.time] #[.int .i64 d.ver, .slice a1 d.add.length c1, .slice a2 d.gone.length c2] #[.int .i64 m.run, .string m.tok, .int .i64 m.amount, .bool m.paid] #[.string n.tok, .int .i64 n.charged, .int .i64 n.paid] #[.slice A.aS p.st.length A.cS, .slice A.aP p.sp.length A.cP, .slice A.aB p.bd.length A.cB, .float .f64 p.off, .int .i64 p.bus, .int .i64 p.busDaily, .int .i64 p.busWeekly, .int .i64 p.hopper, .int .i64 p.most, .int .i64 p.longest, .int .i64 p.change, .int .i64 p.passback, .int .i64 p.delay, .int .i64 p.threshold]) := hide ((unhide HX4).keep hF)
          have HR : Hid (Row u5 (.slice ao x5.length cap) gb x5 ∧ (0 < cap → M ≤ gb)) := hide ⟨hrow, fun hc => Nat.le_trans (unhide HX4).sz (hnew hc)⟩
          clear hrow hnew hF HX4 
          go_upto_if 141 with (fail)
          go_cut [14, 15] from 35 (fun _ _ wc => BK w wc M B1 B2 B3 B4 B6 #[.int .i64 t.dev, .int .i64 t.ctr, .string t.tok, .int .i64 t.kind, .int .i64 t.place, .int .i64 t.time] #[.int .i64 d.ver, .slice a1 d.add.length c1, .slice a2 d.gone.length c2] #[.int .i64 m.run, .string m.tok, .int .i64 m.amount, .bool m.paid] #[.string n.tok, .int .i64 n.charged, .int .i64 n.paid] #[.slice A.aS p.st.length A.cS, .slice A.aP p.sp.length A.cP, .slice A.aB p.bd.length A.cB, .float .f64 p.off, .int .i64 p.bus, .int .i64 p.busDaily, .int .i64 p.busWeekly, .int .i64 p.hopper, .int .i64 p.most, .int .i64 p.longest, .int .i64 p.change, .int .i64 p.passback, .int .i64 p.delay, .int .i64 p.threshold])
          case first =>
            by_cases hk : k5 = 0
            · subst hk
              as_aux_lemma =>
                have G := hide (unhide F5 rfl)
                have R := hide (unhide R5 u5 ao cap x5 ((unhide HR).1.bin (by have := unhide L5; omega)))
                rw [unhide G] at R
                simp only at R
                go_wp2_with fail
                refine (unhide R).mono ?_
                rintro e u9 ⟨b1, e1, g1, rfl, hN, hF⟩
                have HP : Hid ((BK w (u9.alloc (.cells #[.int .i64 0, .int .i64 0] 44)) M B1 B2 B3 B4 B6 #[.int .i64 t.dev, .int .i64 t.ctr, .string t.tok, .int .i64 t.kind, .int .i64 t.place, .int .i64 t.time] #[.int .i64 d.ver, .slice a1 d.add.length c1, .slice a2 d.gone.length c2] #[.int .i64 m.run, .string m.tok, .int .i64 m.amount, .bool m.paid] #[.string n.tok, .int .i64 n.charged, .int .i64 n.paid] #[.slice A.aS p.st.length A.cS, .slice A.aP p.sp.length A.cP, .slice A.aB p.bd.length A.cB, .float .f64 p.off, .int .i64 p.bus, .int .i64 p.busDaily, .int .i64 p.busWeekly, .int .i64 p.hopper, .int .i64 p.most, .int .i64 p.longest, .int .i64 p.change, .int .i64 p.passback, .int .i64 p.delay, .int .i64 p.threshold]) ∧ (Row (u9.alloc (.cells #[.int .i64 0, .int .i64 0] 44)) (.slice ao x5.length cap) gb x5 ∧ (0 < cap → M ≤ gb ∧ gb < u9.heap.size)) ∧ Bx (u9.alloc (.cells #[.int .i64 0, .int .i64 0] 44)) u9.heap.size #[.int .i64 0, .int .i64 0] 44 ∧ CAt (u9.alloc (.cells #[.int .i64 0, .int .i64 0] 44)) b1 (otV l)) := hide (by
                  have h2 := Bx.new u9 #[.int .i64 0, .int .i64 0] 44
                  exact ⟨(unhide HU).keep ((hF.alloc _)), ⟨(unhide HR).1.frame ((hF.alloc _)) (fun t => t), fun hc => ⟨(unhide HR).2 hc, Nat.lt_of_lt_of_le (row_lt (unhide HR).1 hc) hF.size⟩⟩, h2, (hN.row.catN).keep ((Fr.refl (fun _ => False) u9).alloc _)⟩)
                clear R hF hN
                go_upto_region 27 with (fail)
                generalize (u9.alloc (.cells #[.int .i64 0, .int .i64 0] 44)) = t9 at *
                obtain ⟨Fb, HFb⟩ : ∃ B, Hid (u9.heap.size = B) := ⟨_, rfl⟩
                rw [unhide HFb] at HP ⊢
                go_wp2_with fail
                refine (unhide SO t9 b1 e1 (unhide HP).2.2.2 ((unhide HO).1.row.keep (unhide HP).1.fr)).mono ?_
                rintro e t8 ⟨rfl, hF⟩
                have HQ : Hid ((BK w t8 M B1 B2 B3 B4 B6 #[.int .i64 t.dev, .int .i64 t.ctr, .string t.tok, .int .i64 t.kind, .int .i64 t.place, .int .i64 t.time] #[.int .i64 d.ver, .slice a1 d.add.length c1, .slice a2 d.gone.length c2] #[.int .i64 m.run, .string m.tok, .int .i64 m.amount, .bool m.paid] #[.string n.tok, .int .i64 n.charged, .int .i64 n.paid] #[.slice A.aS p.st.length A.cS, .slice A.aP p.sp.length A.cP, .slice A.aB p.bd.length A.cB, .float .f64 p.off, .int .i64 p.bus, .int .i64 p.busDaily, .int .i64 p.busWeekly, .int .i64 p.hopper, .int .i64 p.most, .int .i64 p.longest, .int .i64 p.change, .int .i64 p.passback, .int .i64 p.delay, .int .i64 p.threshold]) ∧ Bx t8 Fb #[.int .i64 0, .int .i64 0] 44) := hide ⟨(unhide HP).1.keep hF, (unhide HP).2.2.1.keep hF⟩
                clear hF HP
                have y0 : t8.cell? ⟨Fb, 0, none⟩ = some (.int .i64 0) := (unhide HQ).2.cell 0
                have y1 : t8.cell? ⟨Fb, 1, none⟩ = some (.int .i64 0) := (unhide HQ).2.cell 1
                go_wp2
                go_meet
                case rel => exact (unhide HQ).1
            · have hkb : (k5 == 0) = false := by simp [hk]
              go_wp2
              go_meet
              case rel => exact unhide HU
          case rest =>
            obtain ⟨v5, hv⟩ : ∃ v, v = wc := ⟨_, rfl⟩
            subst hv
            have HX5 := hide hcut
            clear hcut HU HR W5 F5 R5 L5
            have q0 : v5.cell? ⟨B6, 0, none⟩ = some (.slice A.aS p.st.length A.cS) := (unhide HX5).b6.cell 0
            have q1 : v5.cell? ⟨B6, 1, none⟩ = some (.slice A.aP p.sp.length A.cP) := (unhide HX5).b6.cell 1
            have q2 : v5.cell? ⟨B6, 2, none⟩ = some (.slice A.aB p.bd.length A.cB) := (unhide HX5).b6.cell 2
            have q3 : v5.cell? ⟨B6, 3, none⟩ = some (.float .f64 p.off) := (unhide HX5).b6.cell 3
            have q4 : v5.cell? ⟨B6, 4, none⟩ = some (.int .i64 p.bus) := (unhide HX5).b6.cell 4
            have q5 : v5.cell? ⟨B6, 5, none⟩ = some (.int .i64 p.busDaily) := (unhide HX5).b6.cell 5
            have q6 : v5.cell? ⟨B6, 6, none⟩ = some (.int .i64 p.busWeekly) := (unhide HX5).b6.cell 6
            have q7 : v5.cell? ⟨B6, 7, none⟩ = some (.int .i64 p.hopper) := (unhide HX5).b6.cell 7
            have q8 : v5.cell? ⟨B6, 8, none⟩ = some (.int .i64 p.most) := (unhide HX5).b6.cell 8
            have q9 : v5.cell? ⟨B6, 9, none⟩ = some (.int .i64 p.longest) := (unhide HX5).b6.cell 9
            have q10 : v5.cell? ⟨B6, 10, none⟩ = some (.int .i64 p.change) := (unhide HX5).b6.cell 10
            have q11 : v5.cell? ⟨B6, 11, none⟩ = some (.int .i64 p.passback) := (unhide HX5).b6.cell 11
            have q12 : v5.cell? ⟨B6, 12, none⟩ = some (.int .i64 p.delay) := (unhide HX5).b6.cell 12
            have q13 : v5.cell? ⟨B6, 13, none⟩ = some (.int .i64 p.threshold) := (unhide HX5).b6.cell 13
            go_wp2_with fail
            refine (unhide W6 _ ((unhide HT).keep (unhide HX5).fr)).mono ?_
            rintro e u6 ⟨ao, cap, gb, rfl, hrow, hnew, hF⟩
            have HU : Hid (BK w u6 M B1 B2 B3 B4 B6 #[.int .i64 t.dev, .int .i64 t.ctr, .string t.tok, .int .i64 t.kind, .int .i64 t.place, .int .i64 t.time] #[.int .i64 d.ver, .slice a1 d.add.length c1, .slice a2 d.gone.length c2] #[.int .i64 m.run, .string m.tok, .int .i64 m.amount, .bool m.paid] #[.string n.tok, .int .i64 n.charged, .int .i64 n.paid] #[.slice A.aS p.st.length A.cS, .slice A.aP p.sp.length A.cP, .slice A.aB p.bd.length A.cB, .float .f64 p.off, .int .i64 p.bus, .int .i64 p.busDaily, .int .i64 p.busWeekly, .int .i64 p.hopper, .int .i64 p.most, .int .i64 p.longest, .int .i64 p.change, .int .i64 p.passback, .int .i64 p.delay, .int .i64 p.threshold]) := hide ((unhide HX5).keep hF)
            have HR : Hid (Row u6 (.slice ao x6.length cap) gb x6 ∧ (0 < cap → M ≤ gb)) := hide ⟨hrow, fun hc => Nat.le_trans (unhide HX5).sz (hnew hc)⟩
            clear hrow hnew hF HX5 q0 q1 q2 q3 q4 q5 q6 q7 q8 q9 q10 q11 q12 q13
            by_cases hk : k6 = 0
            · subst hk
              as_aux_lemma =>
                have G := hide (unhide F6 rfl)
                have R := hide (unhide R6 u6 ao cap x6 ((unhide HR).1.bin (by have := unhide L6; omega)))
                rw [(unhide G).1] at R
                simp only at R
                go_wp2_with fail
                refine (unhide R).mono ?_
                rintro e u9 ⟨A2, g0, g1, g2, rfl, hN, hF⟩
                have HP : Hid ((BK w ((u9.alloc (.cells #[.slice A2.aS p.st.length A2.cS, .slice A2.aP p.sp.length A2.cP, .slice A2.aB p.bd.length A2.cB, .float .f64 p.off, .int .i64 p.bus, .int .i64 p.busDaily, .int .i64 p.busWeekly, .int .i64 p.hopper, .int .i64 p.most, .int .i64 p.longest, .int .i64 p.change, .int .i64 p.passback, .int .i64 p.delay, .int .i64 p.threshold] 37)).alloc (.cells #[.int .i64 0, .int .i64 0] 44)) M B1 B2 B3 B4 B6 #[.int .i64 t.dev, .int .i64 t.ctr, .string t.tok, .int .i64 t.kind, .int .i64 t.place, .int .i64 t.time] #[.int .i64 d.ver, .slice a1 d.add.length c1, .slice a2 d.gone.length c2] #[.int .i64 m.run, .string m.tok, .int .i64 m.amount, .bool m.paid] #[.string n.tok, .int .i64 n.charged, .int .i64 n.paid] #[.slice A.aS p.st.length A.cS, .slice A.aP p.sp.length A.cP, .slice A.aB p.bd.length A.cB, .float .f64 p.off, .int .i64 p.bus, .int .i64 p.busDaily, .int .i64 p.busWeekly, .int .i64 p.hopper, .int .i64 p.most, .int .i64 p.longest, .int .i64 p.change, .int .i64 p.passback, .int .i64 p.delay, .int .i64 p.threshold]) ∧ (Row ((u9.alloc (.cells #[.slice A2.aS p.st.length A2.cS, .slice A2.aP p.sp.length A2.cP, .slice A2.aB p.bd.length A2.cB, .float .f64 p.off, .int .i64 p.bus, .int .i64 p.busDaily, .int .i64 p.busWeekly, .int .i64 p.hopper, .int .i64 p.most, .int .i64 p.longest, .int .i64 p.change, .int .i64 p.passback, .int .i64 p.delay, .int .i64 p.threshold] 37)).alloc (.cells #[.int .i64 0, .int .i64 0] 44)) (.slice ao x6.length cap) gb x6 ∧ (0 < cap → M ≤ gb ∧ gb < u9.heap.size)) ∧ Bx ((u9.alloc (.cells #[.slice A2.aS p.st.length A2.cS, .slice A2.aP p.sp.length A2.cP, .slice A2.aB p.bd.length A2.cB, .float .f64 p.off, .int .i64 p.bus, .int .i64 p.busDaily, .int .i64 p.busWeekly, .int .i64 p.hopper, .int .i64 p.most, .int .i64 p.longest, .int .i64 p.change, .int .i64 p.passback, .int .i64 p.delay, .int .i64 p.threshold] 37)).alloc (.cells #[.int .i64 0, .int .i64 0] 44)) (u9.heap.size + 1) #[.int .i64 0, .int .i64 0] 44 ∧ Bx ((u9.alloc (.cells #[.slice A2.aS p.st.length A2.cS, .slice A2.aP p.sp.length A2.cP, .slice A2.aB p.bd.length A2.cB, .float .f64 p.off, .int .i64 p.bus, .int .i64 p.busDaily, .int .i64 p.busWeekly, .int .i64 p.hopper, .int .i64 p.most, .int .i64 p.longest, .int .i64 p.change, .int .i64 p.passback, .int .i64 p.delay, .int .i64 p.threshold] 37)).alloc (.cells #[.int .i64 0, .int .i64 0] 44)) u9.heap.size #[.slice A2.aS p.st.length A2.cS, .slice A2.aP p.sp.length A2.cP, .slice A2.aB p.bd.length A2.cB, .float .f64 p.off, .int .i64 p.bus, .int .i64 p.busDaily, .int .i64 p.busWeekly, .int .i64 p.hopper, .int .i64 p.most, .int .i64 p.longest, .int .i64 p.change, .int .i64 p.passback, .int .i64 p.delay, .int .i64 p.threshold] 37 ∧ TNew u6 ((u9.alloc (.cells #[.slice A2.aS p.st.length A2.cS, .slice A2.aP p.sp.length A2.cP, .slice A2.aB p.bd.length A2.cB, .float .f64 p.off, .int .i64 p.bus, .int .i64 p.busDaily, .int .i64 p.busWeekly, .int .i64 p.hopper, .int .i64 p.most, .int .i64 p.longest, .int .i64 p.change, .int .i64 p.passback, .int .i64 p.delay, .int .i64 p.threshold] 37)).alloc (.cells #[.int .i64 0, .int .i64 0] 44)) p A2 g0 g1 g2) := hide (by
                  have h2 := Bx.new (u9.alloc (.cells #[.slice A2.aS p.st.length A2.cS, .slice A2.aP p.sp.length A2.cP, .slice A2.aB p.bd.length A2.cB, .float .f64 p.off, .int .i64 p.bus, .int .i64 p.busDaily, .int .i64 p.busWeekly, .int .i64 p.hopper, .int .i64 p.most, .int .i64 p.longest, .int .i64 p.change, .int .i64 p.passback, .int .i64 p.delay, .int .i64 p.threshold] 37)) #[.int .i64 0, .int .i64 0] 44
                  rw [heap_alloc] at h2
                  exact ⟨(unhide HU).keep ((hF.alloc _).alloc _), ⟨(unhide HR).1.frame ((hF.alloc _).alloc _) (fun t => t), fun hc => ⟨(unhide HR).2 hc, Nat.lt_of_lt_of_le (row_lt (unhide HR).1 hc) hF.size⟩⟩, h2, (Bx.new _ _ _).alloc _, hN.go (((Fr.refl (fun _ => False) u9).alloc _).alloc _) (fun _ t => t.elim)⟩)
                clear R hF hN
                go_upto_region 34 with (fail)
                generalize ((u9.alloc (.cells #[.slice A2.aS p.st.length A2.cS, .slice A2.aP p.sp.length A2.cP, .slice A2.aB p.bd.length A2.cB, .float .f64 p.off, .int .i64 p.bus, .int .i64 p.busDaily, .int .i64 p.busWeekly, .int .i64 p.hopper, .int .i64 p.most, .int .i64 p.longest, .int .i64 p.change, .int .i64 p.passback, .int .i64 p.delay, .int .i64 p.threshold] 37)).alloc (.cells #[.int .i64 0, .int .i64 0] 44)) = t9 at *
                obtain ⟨Fb, HFb⟩ : ∃ B, Hid (u9.heap.size + 1 = B) := ⟨_, rfl⟩
                rw [unhide HFb] at HP ⊢
                obtain ⟨Rb, HRb⟩ : ∃ B, Hid (u9.heap.size = B) := ⟨_, rfl⟩
                rw [unhide HRb] at HP ⊢
                have HLT : Hid (Rb < Fb ∧ Fb < t9.heap.size) := hide ⟨by have := unhide HFb; have := unhide HRb; omega, (unhide HP).2.2.1.lt⟩
                have hSR := src_slice Tryz.underlying39 (t9.alloc (.cells #[.int .u8 0] 5)) (some ⟨t9.heap.size, 0, none⟩) 1 [0] (fun _ => ⟨t9.heap.size, 0, rfl, fun i hi1 => zero_byte t9 _ i hi1⟩)
                have HSR := hide hSR
                clear hSR
                go_wp2_with (at_builtin; refine wpList_append_row _ rfl (.tmp 176) (.tmp 177) 39 39 rfl 5 i0 Tryz.underlying39 (unhide HI).1 (unhide HI).2.1 (unhide HI).2.2.1 (unhide HI).2.2.2 (g := gb) (bs := x6) (cap := cap) rfl ((unhide HP).2.1.1.stay (fun hx => Below.heap_alloc t9 _ _ hx)) _ [0] rfl (unhide HSR) ?_ ?_)
                · have := unhide L6
                  simp only [List.length_cons, List.length_nil]
                  omega
                intro ao2 cap2 u7 g7 hrow hfr hg
                have HP7 : Hid ((BK w u7 M B1 B2 B3 B4 B6 #[.int .i64 t.dev, .int .i64 t.ctr, .string t.tok, .int .i64 t.kind, .int .i64 t.place, .int .i64 t.time] #[.int .i64 d.ver, .slice a1 d.add.length c1, .slice a2 d.gone.length c2] #[.int .i64 m.run, .string m.tok, .int .i64 m.amount, .bool m.paid] #[.string n.tok, .int .i64 n.charged, .int .i64 n.paid] #[.slice A.aS p.st.length A.cS, .slice A.aP p.sp.length A.cP, .slice A.aB p.bd.length A.cB, .float .f64 p.off, .int .i64 p.bus, .int .i64 p.busDaily, .int .i64 p.busWeekly, .int .i64 p.hopper, .int .i64 p.most, .int .i64 p.longest, .int .i64 p.change, .int .i64 p.passback, .int .i64 p.delay, .int .i64 p.threshold]) ∧ Row u7 (.slice ao2 (x6 ++ [0]).length cap2) g7 (x6 ++ [0]) ∧ Bx u7 Fb #[.int .i64 0, .int .i64 0] 44 ∧ Bx u7 Rb #[.slice A2.aS p.st.length A2.cS, .slice A2.aP p.sp.length A2.cP, .slice A2.aB p.bd.length A2.cB, .float .f64 p.off, .int .i64 p.bus, .int .i64 p.busDaily, .int .i64 p.busWeekly, .int .i64 p.hopper, .int .i64 p.most, .int .i64 p.longest, .int .i64 p.change, .int .i64 p.passback, .int .i64 p.delay, .int .i64 p.threshold] 37 ∧ TNew u6 u7 p A2 g0 g1 g2) := hide (by
                  obtain ⟨p1, ⟨p2, p3⟩, p4, p5, p6⟩ := unhide HP
                  have hl := unhide HLT
                  have h9 := unhide HRb
                  refine ⟨(p1.keep ((Fr.refl (fun _ => False) t9).alloc _)).go hfr (fun q hq => by have := p3 hq.2; omega), by rw [List.length_append]; exact hrow, (p4.alloc _).frame hfr (fun hq => by have := p3 hq.2; omega), (p5.alloc _).frame hfr (fun hq => by have := p3 hq.2; omega), (p6.go ((Fr.refl (fun _ => False) t9).alloc _) (fun _ t => t.elim)).go hfr (fun q hq => by have := row_lt (unhide HR).1 hq.2; omega)⟩)
                have R := hide (unhide R6 u7 ao2 cap2 (x6 ++ [0]) ((unhide HP7).2.1.bin (by have := unhide L6; rw [List.length_append]; simp only [List.length_cons, List.length_nil]; omega)))
                rw [(unhide G).2, List.length_append] at R
                simp only [List.length_cons, List.length_nil, Nat.zero_add] at R
                clear hrow hfr hg HP HSR
                go_wp2_with fail
                refine (unhide R).mono ?_
                rintro e u8 ⟨A3, j0, j1, j2, rfl, hN, hF⟩
                have HQ : Hid ((BK w ((u8.alloc (.cells #[.slice A3.aS tarZ.st.length A3.cS, .slice A3.aP tarZ.sp.length A3.cP, .slice A3.aB tarZ.bd.length A3.cB, .float .f64 tarZ.off, .int .i64 tarZ.bus, .int .i64 tarZ.busDaily, .int .i64 tarZ.busWeekly, .int .i64 tarZ.hopper, .int .i64 tarZ.most, .int .i64 tarZ.longest, .int .i64 tarZ.change, .int .i64 tarZ.passback, .int .i64 tarZ.delay, .int .i64 tarZ.threshold] 37)).alloc (.cells #[.int .i64 13, .int .i64 (x6.length : Int)] 44)) M B1 B2 B3 B4 B6 #[.int .i64 t.dev, .int .i64 t.ctr, .string t.tok, .int .i64 t.kind, .int .i64 t.place, .int .i64 t.time] #[.int .i64 d.ver, .slice a1 d.add.length c1, .slice a2 d.gone.length c2] #[.int .i64 m.run, .string m.tok, .int .i64 m.amount, .bool m.paid] #[.string n.tok, .int .i64 n.charged, .int .i64 n.paid] #[.slice A.aS p.st.length A.cS, .slice A.aP p.sp.length A.cP, .slice A.aB p.bd.length A.cB, .float .f64 p.off, .int .i64 p.bus, .int .i64 p.busDaily, .int .i64 p.busWeekly, .int .i64 p.hopper, .int .i64 p.most, .int .i64 p.longest, .int .i64 p.change, .int .i64 p.passback, .int .i64 p.delay, .int .i64 p.threshold]) ∧ Bx ((u8.alloc (.cells #[.slice A3.aS tarZ.st.length A3.cS, .slice A3.aP tarZ.sp.length A3.cP, .slice A3.aB tarZ.bd.length A3.cB, .float .f64 tarZ.off, .int .i64 tarZ.bus, .int .i64 tarZ.busDaily, .int .i64 tarZ.busWeekly, .int .i64 tarZ.hopper, .int .i64 tarZ.most, .int .i64 tarZ.longest, .int .i64 tarZ.change, .int .i64 tarZ.passback, .int .i64 tarZ.delay, .int .i64 tarZ.threshold] 37)).alloc (.cells #[.int .i64 13, .int .i64 (x6.length : Int)] 44)) Fb #[.int .i64 0, .int .i64 0] 44 ∧ Bx ((u8.alloc (.cells #[.slice A3.aS tarZ.st.length A3.cS, .slice A3.aP tarZ.sp.length A3.cP, .slice A3.aB tarZ.bd.length A3.cB, .float .f64 tarZ.off, .int .i64 tarZ.bus, .int .i64 tarZ.busDaily, .int .i64 tarZ.busWeekly, .int .i64 tarZ.hopper, .int .i64 tarZ.most, .int .i64 tarZ.longest, .int .i64 tarZ.change, .int .i64 tarZ.passback, .int .i64 tarZ.delay, .int .i64 tarZ.threshold] 37)).alloc (.cells #[.int .i64 13, .int .i64 (x6.length : Int)] 44)) Rb #[.slice A2.aS p.st.length A2.cS, .slice A2.aP p.sp.length A2.cP, .slice A2.aB p.bd.length A2.cB, .float .f64 p.off, .int .i64 p.bus, .int .i64 p.busDaily, .int .i64 p.busWeekly, .int .i64 p.hopper, .int .i64 p.most, .int .i64 p.longest, .int .i64 p.change, .int .i64 p.passback, .int .i64 p.delay, .int .i64 p.threshold] 37 ∧ Bx ((u8.alloc (.cells #[.slice A3.aS tarZ.st.length A3.cS, .slice A3.aP tarZ.sp.length A3.cP, .slice A3.aB tarZ.bd.length A3.cB, .float .f64 tarZ.off, .int .i64 tarZ.bus, .int .i64 tarZ.busDaily, .int .i64 tarZ.busWeekly, .int .i64 tarZ.hopper, .int .i64 tarZ.most, .int .i64 tarZ.longest, .int .i64 tarZ.change, .int .i64 tarZ.passback, .int .i64 tarZ.delay, .int .i64 tarZ.threshold] 37)).alloc (.cells #[.int .i64 13, .int .i64 (x6.length : Int)] 44)) (u8.heap.size + 1) #[.int .i64 13, .int .i64 (x6.length : Int)] 44 ∧ TAt ((u8.alloc (.cells #[.slice A3.aS tarZ.st.length A3.cS, .slice A3.aP tarZ.sp.length A3.cP, .slice A3.aB tarZ.bd.length A3.cB, .float .f64 tarZ.off, .int .i64 tarZ.bus, .int .i64 tarZ.busDaily, .int .i64 tarZ.busWeekly, .int .i64 tarZ.hopper, .int .i64 tarZ.most, .int .i64 tarZ.longest, .int .i64 tarZ.change, .int .i64 tarZ.passback, .int .i64 tarZ.delay, .int .i64 tarZ.threshold] 37)).alloc (.cells #[.int .i64 13, .int .i64 (x6.length : Int)] 44)) A2 p) := hide (by
                  have h2 := Bx.new (u8.alloc (.cells #[.slice A3.aS tarZ.st.length A3.cS, .slice A3.aP tarZ.sp.length A3.cP, .slice A3.aB tarZ.bd.length A3.cB, .float .f64 tarZ.off, .int .i64 tarZ.bus, .int .i64 tarZ.busDaily, .int .i64 tarZ.busWeekly, .int .i64 tarZ.hopper, .int .i64 tarZ.most, .int .i64 tarZ.longest, .int .i64 tarZ.change, .int .i64 tarZ.passback, .int .i64 tarZ.delay, .int .i64 tarZ.threshold] 37)) #[.int .i64 13, .int .i64 (x6.length : Int)] 44
                  rw [heap_alloc] at h2
                  obtain ⟨p1, p2, p3, p4, p5⟩ := unhide HP7
                  exact ⟨p1.keep ((hF.alloc _).alloc _), p3.keep ((hF.alloc _).alloc _), p4.keep ((hF.alloc _).alloc _), h2, (p5.go ((hF.alloc _).alloc _) (fun _ t => t.elim)).at⟩)
                clear R hF HP7 hN
                go_upto_region 35 with (fail)
                generalize ((u8.alloc (.cells #[.slice A3.aS tarZ.st.length A3.cS, .slice A3.aP tarZ.sp.length A3.cP, .slice A3.aB tarZ.bd.length A3.cB, .float .f64 tarZ.off, .int .i64 tarZ.bus, .int .i64 tarZ.busDaily, .int .i64 tarZ.busWeekly, .int .i64 tarZ.hopper, .int .i64 tarZ.most, .int .i64 tarZ.longest, .int .i64 tarZ.change, .int .i64 tarZ.passback, .int .i64 tarZ.delay, .int .i64 tarZ.threshold] 37)).alloc (.cells #[.int .i64 13, .int .i64 (x6.length : Int)] 44)) = t8 at *
                obtain ⟨Gb, HGb⟩ : ∃ B, Hid (u8.heap.size + 1 = B) := ⟨_, rfl⟩
                rw [unhide HGb] at HQ ⊢
                have q0 : t8.cell? ⟨Rb, 0, none⟩ = some (.slice A2.aS p.st.length A2.cS) := (unhide HQ).2.2.1.cell 0
                have q1 : t8.cell? ⟨Rb, 1, none⟩ = some (.slice A2.aP p.sp.length A2.cP) := (unhide HQ).2.2.1.cell 1
                have q2 : t8.cell? ⟨Rb, 2, none⟩ = some (.slice A2.aB p.bd.length A2.cB) := (unhide HQ).2.2.1.cell 2
                have q3 : t8.cell? ⟨Rb, 3, none⟩ = some (.float .f64 p.off) := (unhide HQ).2.2.1.cell 3
                have q4 : t8.cell? ⟨Rb, 4, none⟩ = some (.int .i64 p.bus) := (unhide HQ).2.2.1.cell 4
                have q5 : t8.cell? ⟨Rb, 5, none⟩ = some (.int .i64 p.busDaily) := (unhide HQ).2.2.1.cell 5
                have q6 : t8.cell? ⟨Rb, 6, none⟩ = some (.int .i64 p.busWeekly) := (unhide HQ).2.2.1.cell 6
                have q7 : t8.cell? ⟨Rb, 7, none⟩ = some (.int .i64 p.hopper) := (unhide HQ).2.2.1.cell 7
                have q8 : t8.cell? ⟨Rb, 8, none⟩ = some (.int .i64 p.most) := (unhide HQ).2.2.1.cell 8
                have q9 : t8.cell? ⟨Rb, 9, none⟩ = some (.int .i64 p.longest) := (unhide HQ).2.2.1.cell 9
                have q10 : t8.cell? ⟨Rb, 10, none⟩ = some (.int .i64 p.change) := (unhide HQ).2.2.1.cell 10
                have q11 : t8.cell? ⟨Rb, 11, none⟩ = some (.int .i64 p.passback) := (unhide HQ).2.2.1.cell 11
                have q12 : t8.cell? ⟨Rb, 12, none⟩ = some (.int .i64 p.delay) := (unhide HQ).2.2.1.cell 12
                have q13 : t8.cell? ⟨Rb, 13, none⟩ = some (.int .i64 p.threshold) := (unhide HQ).2.2.1.cell 13
                have s0 : t8.cell? ⟨B6, 0, none⟩ = some (.slice A.aS p.st.length A.cS) := (unhide HQ).1.b6.cell 0
                have s1 : t8.cell? ⟨B6, 1, none⟩ = some (.slice A.aP p.sp.length A.cP) := (unhide HQ).1.b6.cell 1
                have s2 : t8.cell? ⟨B6, 2, none⟩ = some (.slice A.aB p.bd.length A.cB) := (unhide HQ).1.b6.cell 2
                have s3 : t8.cell? ⟨B6, 3, none⟩ = some (.float .f64 p.off) := (unhide HQ).1.b6.cell 3
                have s4 : t8.cell? ⟨B6, 4, none⟩ = some (.int .i64 p.bus) := (unhide HQ).1.b6.cell 4
                have s5 : t8.cell? ⟨B6, 5, none⟩ = some (.int .i64 p.busDaily) := (unhide HQ).1.b6.cell 5
                have s6 : t8.cell? ⟨B6, 6, none⟩ = some (.int .i64 p.busWeekly) := (unhide HQ).1.b6.cell 6
                have s7 : t8.cell? ⟨B6, 7, none⟩ = some (.int .i64 p.hopper) := (unhide HQ).1.b6.cell 7
                have s8 : t8.cell? ⟨B6, 8, none⟩ = some (.int .i64 p.most) := (unhide HQ).1.b6.cell 8
                have s9 : t8.cell? ⟨B6, 9, none⟩ = some (.int .i64 p.longest) := (unhide HQ).1.b6.cell 9
                have s10 : t8.cell? ⟨B6, 10, none⟩ = some (.int .i64 p.change) := (unhide HQ).1.b6.cell 10
                have s11 : t8.cell? ⟨B6, 11, none⟩ = some (.int .i64 p.passback) := (unhide HQ).1.b6.cell 11
                have s12 : t8.cell? ⟨B6, 12, none⟩ = some (.int .i64 p.delay) := (unhide HQ).1.b6.cell 12
                have s13 : t8.cell? ⟨B6, 13, none⟩ = some (.int .i64 p.threshold) := (unhide HQ).1.b6.cell 13
                go_wp2_with fail
                refine (unhide SP t8 A2 (unhide HQ).2.2.2.2 ((unhide HT).keep (unhide HQ).1.fr)).mono ?_
                rintro e t7 ⟨rfl, hF⟩
                have HS : Hid (Fr (fun _ => False) w t7 ∧ Bx t7 Fb #[.int .i64 0, .int .i64 0] 44 ∧ Bx t7 Gb #[.int .i64 13, .int .i64 (x6.length : Int)] 44) := hide ⟨(unhide HQ).1.fr.trans hF (fun _ _ t => t), (unhide HQ).2.1.keep hF, (unhide HQ).2.2.2.1.keep hF⟩
                clear hF HQ q0 q1 q2 q3 q4 q5 q6 q7 q8 q9 q10 q11 q12 q13 s0 s1 s2 s3 s4 s5 s6 s7 s8 s9 s10 s11 s12 s13
                have y0 : t7.cell? ⟨Fb, 0, none⟩ = some (.int .i64 0) := (unhide HS).2.1.cell 0
                have y1 : t7.cell? ⟨Fb, 1, none⟩ = some (.int .i64 0) := (unhide HS).2.1.cell 1
                have g0 : t7.cell? ⟨Gb, 0, none⟩ = some (.int .i64 13) := (unhide HS).2.2.cell 0
                go_wp2
                go_ret
                exact ⟨rfl, (unhide HS).1⟩
            · have hkb : (k6 != 0) = true := by simp [hk]
              have hx := unhide F7 hk
              subst hx
              go_wp2
              go_ret
              exact ⟨rfl, (unhide HU).fr⟩

end Go.Proofs.YtkjoojamkbpfcabGreat

namespace Go.Proofs.YtkjoojamkbpfcabGreat
open Go.ChangeShapes Go.WideShapes Go.ChangeAt Go.RowKit Go.Deep

namespace recordBack

set_option maxRecDepth 100000 in
theorem lifted (os : Os) (started : os.Started) (H : Type) (enc : TypeId × Value → H) :
    ReturnsInHanded {} Tryz.checked os 3 .any (Rows.recordBackSpec.pre6 enc Tryz.prog Tryz.f3 Rows.recordBackRow.domain false) (Rows.recordBackSpec.post enc Tryz.prog Tryz.f3 false true false false) := by
  refine returnsInHanded_of_change_sized (C := Tryz.checked) own started (by kernel_rfl) Tryz.func3
    (ChangeSpec.witness6 (enc := enc) (C := Tryz.checked) false ⟨#[], #[.agg #[.int .i64 0, .int .i64 0, .string ⟨#[]⟩, .int .i64 0, .int .i64 0, .int .i64 0], .agg #[.int .i64 0, .slice none 0 0, .slice none 0 0], .agg #[.int .i64 0, .string ⟨#[]⟩, .int .i64 0, .bool false], .agg #[.string ⟨#[]⟩, .int .i64 0, .int .i64 0], .slice none 0 0, .agg #[.slice none 0 0, .slice none 0 0, .slice none 0 0, .float .f64 0, .int .i64 0, .int .i64 0, .int .i64 0, .int .i64 0, .int .i64 0, .int .i64 0, .int .i64 0, .int .i64 0, .int .i64 0, .int .i64 0]], []⟩ 8 (by kernel_rfl) (by kernel_rfl) (by kernel_rfl) (by kernel_rfl)) ?_
  intro W base args ds gs before hval0 hW hcnd hsz0 _
  have hsz : (DataW.weightsEach Tryz.prog (Tryz.f3.params.toList ++ Rows.recordBackSpec.plain.varTypes Tryz.prog) (ds ++ gs)).all (· ≤ reachBytes) = true := hsz0
  have hval : ∀ (j : Nat) t v, Tryz.f3.params[j]? = some t → args[j]? = some v → Value.okWide Tryz.prog W .any base t v := hval0
  have hW' := hW
  obtain ⟨p, q, hA0, hV, rfl, hfz, hnd⟩ := hW
  have hA : DataW.TrodAll enc Tryz.prog W 0 (fun _ => true) true Tryz.f3.params.toList args.toList ds p := hA0
  rw [Tryz.params3] at hA hval hsz
  obtain ⟨v0, vs0, d0, ds0, p0, q0, hargs, rfl, rfl, h0, r0⟩ := trodAll_cons hA
  obtain ⟨v1, vs1, d1, ds1, p1, q1, rfl, rfl, rfl, h1, r1⟩ := trodAll_cons r0
  obtain ⟨v2, vs2, d2, ds2, p2, q2, rfl, rfl, rfl, h2, r2⟩ := trodAll_cons r1
  obtain ⟨v3, vs3, d3, ds3, p3, q3, rfl, rfl, rfl, h3, r3⟩ := trodAll_cons r2
  obtain ⟨v4, vs4, d4, ds4, p4, q4, rfl, rfl, rfl, h4, r4⟩ := trodAll_cons r3
  obtain ⟨v5, vs5, d5, ds5, p5, q5, rfl, rfl, rfl, h5, r5⟩ := trodAll_cons r4
  obtain ⟨rfl, rfl, rfl⟩ := trodAll_nil r5
  obtain rfl : args = #[v0, v1, v2, v3, v4, v5] := by cases args; simp_all
  obtain ⟨rfl, rfl⟩ := trodVars_none hV
  have k0 := h0
  have lt0 : ∀ x ∈ p0, x.block < W.heap.size := by obtain ⟨m, hm⟩ := k0; exact DataW.trod_lt m _ _ _ hm
  obtain ⟨t0, rfl, ht0⟩ := arg_tap (okWide_struct Tryz.underlying23 (hval 0 23 v0 rfl rfl)) h0
  have k1 := h1
  have lt1 : ∀ x ∈ p1, x.block < W.heap.size := by obtain ⟨m, hm⟩ := k1; exact DataW.trod_lt m _ _ _ hm
  obtain ⟨t1, aa1, ca1, ab1, cb1, rfl, ht1⟩ := arg_delta (j := 1) (okWide_struct Tryz.underlying26 (hval 1 26 v1 rfl rfl)) h1 hsz rfl rfl
  have k2 := h2
  have lt2 : ∀ x ∈ p2, x.block < W.heap.size := by obtain ⟨m, hm⟩ := k2; exact DataW.trod_lt m _ _ _ hm
  obtain ⟨t2, rfl, ht2, hlo2, hhi2⟩ := arg_entry (okWide_struct Tryz.underlying28 (hval 2 28 v2 rfl rfl)) h2
  have k3 := h3
  have lt3 : ∀ x ∈ p3, x.block < W.heap.size := by obtain ⟨m, hm⟩ := k3; exact DataW.trod_lt m _ _ _ hm
  obtain ⟨t3, rfl, ht3⟩ := arg_account (okWide_struct Tryz.underlying30 (hval 3 30 v3 rfl rfl)) h3
  have k4 := h4
  have lt4 : ∀ x ∈ p4, x.block < W.heap.size := by obtain ⟨m, hm⟩ := k4; exact DataW.trod_lt m _ _ _ hm
  obtain ⟨a4, c4, l4, rfl, hl4, hm4⟩ := arg_outages (j := 4) (okWide_slice Tryz.underlying31 (hval 4 31 v4 rfl rfl)) h4 hsz rfl rfl
  have k5 := h5
  have lt5 : ∀ x ∈ p5, x.block < W.heap.size := by obtain ⟨m, hm⟩ := k5; exact DataW.trod_lt m _ _ _ hm
  obtain ⟨A5, t5, rfl, hT5⟩ := open_arg (j := 5) (okWide_struct Tryz.underlying37 (hval 5 37 v5 rfl rfl)) h5 hsz rfl rfl
  clear hA0 hval0
  refine (back_walk8 W t0 t1 aa1 ca1 ab1 cb1 ht1 t2 t3 l4 a4 c4 hl4 (by omega) A5 t5 hT5).mono fun e W' ⟨he, hfr⟩ => ?_
  subst he
  have bel : Below W.heap.size W W' := hfr.below (Nat.le_refl _) (fun k t => t.elim)
  exact ⟨_, rfl, _, _, _, [], _, [], hW', trodAll_mk1 (shut_bool Tryz.underlying4 _), (trodAll_cons_mk (Below.trod laidOut (by kernel_rfl) (of_decide_eq_true (by kernel_rfl)) k0 bel lt0) (trodAll_cons_mk (Below.trod laidOut (by kernel_rfl) (of_decide_eq_true (by kernel_rfl)) k1 bel lt1) (trodAll_cons_mk (Below.trod laidOut (by kernel_rfl) (of_decide_eq_true (by kernel_rfl)) k2 bel lt2) (trodAll_cons_mk (Below.trod laidOut (by kernel_rfl) (of_decide_eq_true (by kernel_rfl)) k3 bel lt3) (trodAll_cons_mk (Below.trod laidOut (by kernel_rfl) (of_decide_eq_true (by kernel_rfl)) k4 bel lt4) (trodAll_cons_mk (Below.trod laidOut (by kernel_rfl) (of_decide_eq_true (by kernel_rfl)) k5 bel lt5) trodAll_mk0)))))), rfl, bel.frame _, fun h => by cases h⟩

theorem over : Rows.recordBackRow.holds Tryz.pinned (OpenSpec.ofChange Rows.recordBackSpec) :=
  OpenClaim.holds_of_wide 3 Tryz.f3 rfl rfl rfl rfl rfl rfl rfl ⟨rfl, rfl, rfl, rfl, rfl⟩ rfl rfl rfl rfl rfl (by kernel_rfl) Tryz.func3 (by kernel_rfl)
    (of_decide_eq_true (by kernel_rfl)) (by unfold Func.isWrapper; first | (rw [if_pos (by decide +kernel)]; kernel_rfl) | (rw [if_neg (by decide +kernel)]; exact ⟨rfl, rfl⟩))
    (fun os started H enc _ => lifted os started H enc)

end recordBack

/-- THE STATEMENT. -/
theorem recordBack_holds : Rows.RecordBackSaid := recordBack.over
#print axioms recordBack_holds
end Go.Proofs.YtkjoojamkbpfcabGreat

