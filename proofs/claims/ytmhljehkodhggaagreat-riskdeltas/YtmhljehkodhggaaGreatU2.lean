import Derived.Test.YtmhljehkodhggaaGreatU1
import Derived.Test.YtmhljehkodhggaaGreatN6
/- Package risk: two rising lists gone through at once. -/
namespace Go.Proofs.YtmhljehkodhggaaGreat
open Go.RowKit

theorem tkV_len (l : List ByteArray) : (tkV l).length = l.length := by
  unfold tkV
  induction l with
  | nil => rfl
  | cons a l ih => rw [List.flatMap_cons, List.length_append, ih]; simp [tkC]; omega
theorem tkV_app (l m : List ByteArray) : tkV (l ++ m) = tkV l ++ tkV m := by unfold tkV; rw [List.flatMap_append]

/-- A list of texts of one's own, made behind w0. -/
def LO (w0 w : World) (ao : Option Addr) (cap g : Nat) (l : List ByteArray) : Prop := KL w0 w ao cap g 1 (tkV l)

theorem LO.len {w0 w : World} {ao : Option Addr} {cap g : Nat} {l : List ByteArray} (h : LO w0 w ao cap g l) : l.length ≤ cap := by
  have := h.row.le
  rw [tkV_len] at this
  omega
theorem LO.sat {w0 w : World} {ao : Option Addr} {cap g : Nat} {l : List ByteArray} (h : LO w0 w ao cap g l) : SAt w ao l := cat_sat (fun h0 => by
  have h1 := h.row.le
  exact ⟨g, 0, h.row.ad (by omega), fun j hj => by rw [Nat.zero_add]; exact h.row.cells j hj⟩)
theorem LO.keep {w0 w w' : World} {ao : Option Addr} {cap g : Nat} {l : List ByteArray} (h : LO w0 w ao cap g l) (hf : Fr (fun _ => False) w w') : LO w0 w' ao cap g l := ⟨h.row.keep (by omega) hf, h.new⟩
theorem LO.go {S : Nat → Prop} {w0 w w' : World} {ao : Option Addr} {cap g : Nat} {l : List ByteArray} (h : LO w0 w ao cap g l) (hf : Fr S w w') (hS : 0 < cap → ¬ S g) : LO w0 w' ao cap g l :=
  ⟨h.row.stay (fun hc => hf.block g (h.row.lt (by omega) hc) (hS hc)), h.new⟩
theorem LO.later {w0 w1 w : World} {ao : Option Addr} {cap g : Nat} {l : List ByteArray} (h : LO w1 w ao cap g l) (hs : w0.heap.size ≤ w1.heap.size) : LO w0 w ao cap g l := ⟨h.row, fun hc => Nat.le_trans hs (h.new hc)⟩
theorem LO.lt {w0 w : World} {ao : Option Addr} {cap g : Nat} {l : List ByteArray} (h : LO w0 w ao cap g l) (hc : 0 < cap) : g < w.heap.size := h.row.lt (by omega) hc
theorem LO.nil (w0 w : World) : LO w0 w none 0 0 [] := ⟨KRow.nil _ _ _, fun h => absurd h (by omega)⟩
theorem LO.grew {w0 w w1 w' : World} {ao ao' : Option Addr} {cap g cap' g' : Nat} {l : List ByteArray} {x : ByteArray} (h : LO w0 w ao cap g l) (hf : Fr (fun _ => False) w w1) (hs : w0.heap.size ≤ w1.heap.size) (hK : KRow w' ao' cap' g' 1 (tkV l ++ [.string x])) (hG : Grew w1 g cap w' g' cap') : LO w0 w' ao' cap' g' (l ++ [x]) ∧ Fr (fun q => w0.heap.size ≤ q) w w' := by
  refine ⟨⟨by rw [tkV_app]; exact hK, fun hc => ?_⟩, ?_⟩
  · rcases hG with ⟨e1, e2, _⟩ | ⟨e1, _, _⟩
    · subst e1 e2; exact h.new hc
    · omega
  · rcases hG with ⟨_, _, hf2⟩ | ⟨_, _, hf2⟩
    · exact (hf.mono (fun _ _ t => t.elim)).trans hf2 (fun i _ t => by rw [t.1]; exact h.new t.2)
    · exact (hf.mono (fun _ _ t => t.elim)).trans hf2 (fun _ _ t => t.elim)

set_option maxRecDepth 20000 in
/-- What a slice is behind its first text. -/
theorem SAt.tail {w : World} {b off cap n : Nat} {x : ByteArray} {l : List ByteArray} (h : SAt w (some ⟨b, off, none⟩) (x :: l)) (hl : (x :: l).length ≤ cap) (hn : n = l.length) :
    w.cell? ⟨b, off, none⟩ = some (.string x) ∧ ∃ bo, (∀ u : World, (Instr.slice 22 (.slice (some ⟨b, off, none⟩) (n + 1) cap) (some (.int .i64 1)) none none).run Tryz.prog u = .ok (.slice bo n (cap - 1)) u) ∧ SAt w bo l ∧ l.length ≤ cap - 1 := by
  subst hn
  rw [List.length_cons] at hl
  obtain ⟨b', off', e, hc⟩ := h (by simp)
  injection e with e
  injection e with e1 e2 e3
  subst e1 e2
  refine ⟨by have := hc 0 (by simp); simpa using this, if cap = 1 then some ⟨b, off, none⟩ else some ⟨b, off + 1, none⟩, fun u => ?_, fun h0 => ?_, by omega⟩
  · have e : sliced (some ⟨b, off, none⟩) 1 (l.length + 1) cap 1 = .slice (if cap = 1 then some ⟨b, off, none⟩ else some ⟨b, off + 1, none⟩) l.length (cap - 1) := by
      simp [sliced, Addr.add_lit]
    rw [run_slice_l (P := Tryz.prog) (w := u) 22 (some ⟨b, off, none⟩) (l.length + 1) cap Tryz.underlying22 .i64 1 (by omega) (by omega), ← e]
    rfl
  · rw [if_neg (by omega)]
    refine ⟨b, off + 1, rfl, fun j hj => ?_⟩
    have := hc (j + 1) (by simp; omega)
    rw [show off + 1 + j = off + (j + 1) by omega, this]
    simp

/-- How what two lists begin with is ordered; an empty one comes last. -/
def hdO : List ByteArray → List ByteArray → Int
  | [], _ => 1
  | _ :: _, [] => -1
  | x :: _, y :: _ => if ltS x y then -1 else if eqS x y then 0 else 1

theorem compare_any (x y : ByteArray) (w : World) : Calls Tryz.prog 60 #[.string x, .string y] w fun e w' => e = .returned (.int .i64 (if ltS x y then -1 else if eqS x y then 0 else 1)) ∧ w' = w := by
  have hL : ∀ a b : ByteArray, ltS a b = Op.bytesLess a.toList b.toList := fun _ _ => rfl
  rcases lt_tot x y with k | k | k
  · have k' : Op.bytesLess x.toList y.toList = true := k
    rw [k, if_pos rfl]
    clear k hL
    go_enter Tryz.func60, Tryz.ntmps60
    go_wp2_with fail
    refine (nan9 x _).mono ?_
    rintro e w1 ⟨rfl, hq⟩
    obtain rfl := hq.symm
    go_wp2_with fail
    refine (nan9 y _).mono ?_
    rintro e w1 ⟨rfl, hq⟩
    obtain rfl := hq.symm
    go_wp2
    go_ret
    exact ⟨rfl, rfl⟩
  · subst k
    rw [lt_irr, if_neg (by simp), eqS_self, if_pos rfl]
    have k' : Op.bytesLess x.toList x.toList = false := less_irrefl _
    clear hL
    go_enter Tryz.func60, Tryz.ntmps60
    go_wp2_with fail
    refine (nan9 x _).mono ?_
    rintro e w1 ⟨rfl, hq⟩
    obtain rfl := hq.symm
    go_wp2_with fail
    refine (nan9 x _).mono ?_
    rintro e w1 ⟨rfl, hq⟩
    obtain rfl := hq.symm
    go_wp2
    go_ret
    exact ⟨rfl, rfl⟩
  · have k' : Op.bytesLess y.toList x.toList = true := k
    have k2 : Op.bytesLess x.toList y.toList = false := lt_asym k
    have k3 : (x.toList == y.toList) = false := eqS_not (fun e => lt_ne k e.symm)
    rw [lt_asym k, if_neg (by simp), eqS_not (fun e => lt_ne k e.symm), if_neg (by simp)]
    clear k hL
    go_enter Tryz.func60, Tryz.ntmps60
    go_wp2_with fail
    refine (nan9 x _).mono ?_
    rintro e w1 ⟨rfl, hq⟩
    obtain rfl := hq.symm
    go_wp2_with fail
    refine (nan9 y _).mono ?_
    rintro e w1 ⟨rfl, hq⟩
    obtain rfl := hq.symm
    go_wp2
    go_ret
    exact ⟨rfl, rfl⟩

theorem heads_any (w : World) (a b : List ByteArray) (ax : Option Addr) (cx : Nat) (bx : Option Addr) (cb : Nat) (ha : SAt w ax a) (hb : SAt w bx b) :
    Calls Tryz.prog 54 #[.slice ax a.length cx, .slice bx b.length cb] w fun e w' => e = .returned (.int .i64 (hdO a b)) ∧ Fr (fun _ => False) w w' := by
  cases a with
  | nil =>
    clear ha hb
    rw [hdO, List.length_nil]
    go_enter Tryz.func54, Tryz.ntmps54
    go_wp2
    go_ret
    exact ⟨rfl, Fr.refl _ _⟩
  | cons x a =>
    cases b with
    | nil =>
      clear ha hb
      rw [hdO, List.length_nil, List.length_cons]
      have hd : (((a.length + 1 : Nat) : Int) == 0) = false := by rw [beq_eq_false_iff_ne]; omega
      generalize a.length + 1 = n at *
      go_enter Tryz.func54, Tryz.ntmps54
      go_wp2
      go_ret
      exact ⟨rfl, Fr.refl _ _⟩
    | cons y b =>
      obtain ⟨p, po, rfl, hc⟩ := ha (by simp)
      obtain ⟨q, qo, rfl, hd⟩ := hb (by simp)
      have c0 : w.cell? ⟨p, po, none⟩ = some (.string x) := by have := hc 0 (by simp); simpa using this
      have d0 : w.cell? ⟨q, qo, none⟩ = some (.string y) := by have := hd 0 (by simp); simpa using this
      have e1 : (((a.length + 1 : Nat) : Int) == 0) = false := by rw [beq_eq_false_iff_ne]; omega
      have e2 : (((b.length + 1 : Nat) : Int) == 0) = false := by rw [beq_eq_false_iff_ne]; omega
      rw [hdO, List.length_cons, List.length_cons]
      have l1 : 0 < a.length + 1 := by omega
      have l2 : 0 < b.length + 1 := by omega
      have R := hide (compare_any x y)
      generalize (if ltS x y then (-1 : Int) else if eqS x y then 0 else 1) = o at *
      generalize a.length + 1 = n at *
      generalize b.length + 1 = m at *
      clear ha hb hc hd
      go_enter Tryz.func54, Tryz.ntmps54
      go_wp2
      go_quiet ((go_at_call 60; exact Calls.quiet_of_same (unhide R _)))
      go_wp2
      go_ret
      exact ⟨rfl, (Fr.refl _ _).drewN _⟩

theorem chF_step (p : Bool → Bool → Bool) (n : Nat) (a b : List ByteArray) (h : 0 < a.length + b.length) :
    (hdO a b = -1 ∧ ∃ x a2, a = x :: a2 ∧ chF p (n + 1) a b = (if p true false then [x] else []) ++ chF p n a2 b) ∨
    (hdO a b = 0 ∧ ∃ x a2 y b2, a = x :: a2 ∧ b = y :: b2 ∧ chF p (n + 1) a b = (if p true true then [y] else []) ++ chF p n a2 b2) ∨
    (hdO a b = 1 ∧ ∃ y b2, b = y :: b2 ∧ chF p (n + 1) a b = (if p false true then [y] else []) ++ chF p n a b2) := by
  cases a with
  | nil =>
    cases b with
    | nil => simp at h
    | cons y b2 => exact Or.inr (Or.inr ⟨rfl, y, b2, rfl, rfl⟩)
  | cons x a2 =>
    cases b with
    | nil => exact Or.inl ⟨rfl, x, a2, rfl, rfl⟩
    | cons y b2 =>
      cases h1 : ltS x y
      · cases h2 : eqS x y
        · exact Or.inr (Or.inr ⟨by simp [hdO, h1, h2], y, b2, rfl, by simp [chF, h1, h2]⟩)
        · exact Or.inr (Or.inl ⟨by simp [hdO, h1, h2], x, a2, y, b2, rfl, rfl, by simp [chF, h1, h2]⟩)
      · exact Or.inl ⟨by simp [hdO, h1], x, a2, rfl, by simp [chF, h1]⟩

/-- How long a slice is. -/
def slen : Value → Nat
  | .slice _ n _ => n
  | _ => 0

/-- What stands when two lists are gone through: what is left of them, what was taken. -/
structure ChI (w wr : World) (p : Bool → Bool → Bool) (R a b out : List ByteArray) (ax : Option Addr) (cx : Nat) (bx : Option Addr) (cb : Nat) (ao : Option Addr) (cap g : Nat) (f : Nat) : Prop where
  sa : SAt w ax a
  ca : a.length ≤ cx
  sb : SAt w bx b
  cb : b.length ≤ cb
  row : LO w wr ao cap g out
  fr : Fr (fun _ => False) w wr
  rest : out ++ chF p f a b = R
  fuel : a.length + b.length ≤ f

theorem ChI.app {w wr W w' : World} {p : Bool → Bool → Bool} {R a b out a' b' : List ByteArray} {ax bx ax' bx' : Option Addr} {cx cb cx' cb' : Nat} {ao ao' : Option Addr} {cap g f cap' g' : Nat} {x : ByteArray} (h : ChI w wr p R a b out ax cx bx cb ao cap g f) (h0 : Fr (fun _ => False) wr W)
    (ha : SAt w ax' a') (hca : a'.length ≤ cx') (hb : SAt w bx' b') (hcb : b'.length ≤ cb') (hK : KRow w' ao' cap' g' 1 (tkV out ++ [.string x])) (hG : Grew W g cap w' g' cap') {f' : Nat} (hr : out ++ ([x] ++ chF p f' a' b') = R) (hf : a'.length + b'.length ≤ f') : ChI w w' p R a' b' (out ++ [x]) ax' cx' bx' cb' ao' cap' g' f' := by
  obtain ⟨k1, k2⟩ := h.row.grew h0 (Nat.le_trans h.fr.size h0.size) hK hG
  exact ⟨ha, hca, hb, hcb, k1, h.fr.trans k2 (fun i hi t => by omega), by rw [List.append_assoc]; exact hr, hf⟩
theorem ChI.skip {w wr W : World} {p : Bool → Bool → Bool} {R a b out a' b' : List ByteArray} {ax bx ax' bx' : Option Addr} {cx cb cx' cb' : Nat} {ao : Option Addr} {cap g f : Nat} (h : ChI w wr p R a b out ax cx bx cb ao cap g f) (h0 : Fr (fun _ => False) wr W)
    (ha : SAt w ax' a') (hca : a'.length ≤ cx') (hb : SAt w bx' b') (hcb : b'.length ≤ cb') {f' : Nat} (hr : out ++ ([] ++ chF p f' a' b') = R) (hf : a'.length + b'.length ≤ f') : ChI w W p R a' b' out ax' cx' bx' cb' ao cap g f' :=
  ⟨ha, hca, hb, hcb, h.row.keep h0, h.fr.trans h0 (fun _ _ t => t), hr, hf⟩
theorem ChI.low {w wr w' : World} {p : Bool → Bool → Bool} {R a b out : List ByteArray} {ax bx : Option Addr} {cx cb : Nat} {ao : Option Addr} {cap g f : Nat} (h : ChI w wr p R a b out ax cx bx cb ao cap g f) (hf : Fr (fun _ => False) wr w') {q qo : Nat} {x : ByteArray} (c : w.cell? ⟨q, qo, none⟩ = some (.string x)) : w'.cell? ⟨q, qo, none⟩ = some (.string x) :=
  ((h.fr.trans hf (fun _ _ t => t)).cell (a := ⟨q, qo, none⟩) (World.block_lt_of_cell? _ _ c) (fun t => t)).trans c

theorem wantedE_any (x y : Bool) (w : World) : Calls Tryz.prog 45 #[.bool x, .bool y] w fun e w' => e = .returned (.bool ((fun _ _ => true) x y)) ∧ w' = w := by
  cases x <;> cases y <;>
  · go_enter Tryz.func45, Tryz.ntmps45
    go_wp2
    go_ret
    exact ⟨rfl, rfl⟩

set_option maxHeartbeats 4000000 in
set_option maxRecDepth 20000 in
theorem chosenE_any (w : World) (a b : List ByteArray) (ax : Option Addr) (cx : Nat) (bx : Option Addr) (cb : Nat) (ha : SAt w ax a) (hca : a.length ≤ cx) (hb : SAt w bx b) (hcb : b.length ≤ cb) (hla : a.length ≤ 100000) (hlb : b.length ≤ 100000) :
    Calls Tryz.prog 44 #[.slice ax a.length cx, .slice bx b.length cb, .func (.func 45) #[] #[]] w fun e w' => ∃ ao cap g, e = .returned (.slice ao (chL (fun _ _ => true) a b).length cap) ∧ LO w w' ao cap g (chL (fun _ _ => true) a b) ∧ Fr (fun _ => False) w w' := by
  have HC : Hid (∀ (w' : World) (x y : Bool), Calls Tryz.prog 45 #[.bool x, .bool y] w' fun e w'' => e = .returned (.bool ((fun _ _ => true) x y)) ∧ w'' = w') := hide (fun w' x y => wantedE_any x y w')
  obtain ⟨info, hi, hzz⟩ := Option.map_eq_some_iff.1 Token_info
  simp only [Prod.mk.injEq] at hzz
  have HI := hide (And.intro hi hzz)
  have HL : Hid ((chL (fun _ _ => true) a b).length ≤ 200000) := hide (Nat.le_trans (chF_len _ _ _ _) (by omega))
  have H0 : Hid (ChI w w (fun _ _ => true) (chL (fun _ _ => true) a b) a b [] ax cx bx cb none 0 0 (a.length + b.length)) := hide ⟨ha, hca, hb, hcb, LO.nil _ _, Fr.refl _ _, rfl, Nat.le_refl _⟩
  have HM : Hid (a.length + b.length ≤ 200000) := hide (by omega)
  generalize chL (fun _ _ => true) a b = R at *
  generalize (fun _ _ => true) = p at *
  clear ha hca hb hcb hla hlb hi hzz
  go_enter Tryz.func44, Tryz.ntmps44
  go_wp2
  go_loopw [0, 1, 7, 8, 9, 10, 11] (fun s0 s1 s7 _ _ _ _ wr => ∃ (na nb no : Nat) (ax : Option Addr) (cx : Nat) (bx : Option Addr) (cb : Nat) (ao : Option Addr) (cap : Nat), s0 = .slice ax na cx ∧ s1 = .slice bx nb cb ∧ s7 = .slice ao no cap ∧ na + nb ≤ 200000 ∧ Hid (∃ (a b out : List ByteArray) (g f : Nat), na = a.length ∧ nb = b.length ∧ no = out.length ∧ ChI w wr p R a b out ax cx bx cb ao cap g f)) (fun s0 s1 _ _ _ _ _ _ => slen s0 + slen s1)
  case atStart => exact ⟨_, _, 0, ax, cx, bx, cb, none, 0, rfl, rfl, rfl, unhide HM, a, b, [], 0, _, rfl, rfl, rfl, unhide H0⟩
  case round =>
    clear H0 HM
    obtain ⟨na, nb, no, ax', cx', bx', cb', ao, cap, rfl, rfl, rfl, hn, HR⟩ := hrel
    by_cases hz : 0 < na + nb
    · obtain ⟨a', b', out, g, f, ea, eb, eo, hR⟩ := unhide HR
      clear HR
      obtain ⟨f', hf'⟩ : ∃ f', f = f' + 1 := ⟨f - 1, by have := hR.fuel; omega⟩
      subst hf'
      have hgt : ((na : Int) + (nb : Int) > 0) := by omega
      have HH := hide (heads_any wr a' b' ax' cx' bx' cb' (hR.sa.keep hR.fr) (hR.sb.keep hR.fr))
      have HOL : Hid (out.length ≤ 200000) := hide (by have := congrArg List.length hR.rest; rw [List.length_append] at this; have := unhide HL; omega)
      rw [← ea, ← eb] at HH
      rcases chF_step p f' a' b' (by omega) with ⟨ho, x, a2, e1, hs⟩ | ⟨ho, x, a2, y, b2, e1, e2, hs⟩ | ⟨ho, y, b2, e2, hs⟩
      · rw [ho] at HH
        subst e1
        obtain ⟨q, qo, rfl, _⟩ := hR.sa (by simp)
        obtain ⟨n1, hn1⟩ : ∃ n', na = n' + 1 := ⟨a2.length, by rw [ea]; rfl⟩
        obtain ⟨c0, bo, hsl, hT, hcT⟩ := hR.sa.tail (n := n1) hR.ca (by rw [List.length_cons] at ea; omega)
        have HC0 : Hid (∀ w', Fr (fun _ => False) wr w' → w'.cell? ⟨q, qo, none⟩ = some (.string x)) := hide (fun w' hf => hR.low hf c0)
        have hrest := hR.rest
        rw [hs] at hrest
        have hfuel := hR.fuel
        simp only [List.length_cons] at hfuel ea eb
        subst hn1
        have HX := hide (And.intro hR (And.intro hrest (And.intro (show a2.length + b'.length ≤ f' by omega) (And.intro ea (And.intro eb eo)))))
        have HY := hide (And.intro (hT) (And.intro (hcT) (And.intro (hR.sb) (hR.cb))))
        have HCC := hide (fun w' => unhide HC w' true false)
        clear hR hrest hfuel ea eb eo hs ho hT hcT c0
        go_wp2_with fail
        refine (unhide HH).mono ?_
        rintro e w1 ⟨rfl, hF⟩
        have c1 := unhide HC0 w1 hF
        have HF := hide hF
        clear hF
        cases hp : p true false with
        | true =>
          rw [hp] at HCC HX
          go_wp2
          go_quiet (fail)
          go_wp2_with fail
          refine (unhide HCC _).mono ?_
          rintro e w2 ⟨rfl, hq⟩
          obtain rfl := hq.symm
          clear hq
          have HFd : Hid (Fr (fun _ => False) wr (w1.drewN nq)) := hide ((unhide HF).drewN _)
          generalize w1.drewN nq = wd at *
          have HW : Hid (Fr (fun _ => False) wr (wd.alloc (.cells #[.string x] 9))) := hide ((unhide HFd).alloc _)
          have HK2 := hide ((unhide HX).1.row.keep (unhide HW)).row
          have HSR := hide (src_one (P := Tryz.prog) wd [.string x] 22 9 1 Tryz.underlying22 rfl (fun u hu => by simp only [List.mem_cons, List.not_mem_nil, or_false] at hu; subst hu; rfl) (W := wd.alloc (.cells #[.string x] 9)) (fun j => by rw [World.cell?_alloc_new]; simp))
          have HLE : Hid ((tkV out).length = no * 1) := hide (by rw [tkV_len, Nat.mul_one]; exact (unhide HX).2.2.2.2.2.symm)
          have HNO : Hid (no ≤ 200000) := hide (by have := unhide HOL; have := (unhide HX).2.2.2.2.2; omega)
          clear c1 
          go_wp2_with (at_builtin; refine wpList_append_krow _ rfl (.tmp 41) (.tmp 43) 22 22 rfl 9 info _ 1 (by omega) Tryz.underlying22 (unhide HI).1 (unhide HI).2.1 rfl (unhide HI).2.2.1 rfl (unhide HK2) (unhide HLE) _ _ 1 rfl (unhide HSR) (by rw [(unhide HI).2.2.2]; have := unhide HNO; omega) (by have := unhide HNO; omega) ?_)
          intro ao' cap' w3 g' hK hG
          have HN := hide ((unhide HX).1.app (unhide HW) (unhide HY).1 (unhide HY).2.1 (unhide HY).2.2.1 (unhide HY).2.2.2 hK hG (unhide HX).2.1 (unhide HX).2.2.1)
          have HE := hide (unhide HX).2.2.2
          clear hK hG HX HY HK2 HSR HLE HW HFd
          go_wp2
          exact ⟨⟨n1, nb, no + 1, _, _, _, _, ao', cap', rfl, rfl, rfl, by omega, _, _, _, g', f', by have := (unhide HE).1; omega, by have := (unhide HE).2.1; omega, by have := (unhide HE).2.2; simp; omega, unhide HN⟩, by simp [slen] <;> omega⟩
        | false =>
          rw [hp] at HCC HX
          go_wp2
          go_quiet (fail)
          go_wp2_with fail
          refine (unhide HCC _).mono ?_
          rintro e w2 ⟨rfl, hq⟩
          obtain rfl := hq.symm
          clear hq
          have HFd : Hid (Fr (fun _ => False) wr (w1.drewN nq)) := hide ((unhide HF).drewN _)
          have HN := hide ((unhide HX).1.skip (unhide HFd) (unhide HY).1 (unhide HY).2.1 (unhide HY).2.2.1 (unhide HY).2.2.2 (unhide HX).2.1 (unhide HX).2.2.1)
          have HE := hide (unhide HX).2.2.2
          clear HX HY
          go_wp2
          exact ⟨⟨n1, nb, no, _, _, _, _, ao, cap, rfl, rfl, rfl, by omega, _, _, _, g, f', by have := (unhide HE).1; omega, by have := (unhide HE).2.1; omega, by have := (unhide HE).2.2; omega, unhide HN⟩, by simp [slen] <;> omega⟩
      · rw [ho] at HH
        subst e1
        subst e2
        obtain ⟨q, qo, rfl, _⟩ := hR.sa (by simp)
        obtain ⟨n1, hn1⟩ : ∃ n', na = n' + 1 := ⟨a2.length, by rw [ea]; rfl⟩
        obtain ⟨c0, bo, hsl, hT, hcT⟩ := hR.sa.tail (n := n1) hR.ca (by rw [List.length_cons] at ea; omega)
        have HC0 : Hid (∀ w', Fr (fun _ => False) wr w' → w'.cell? ⟨q, qo, none⟩ = some (.string x)) := hide (fun w' hf => hR.low hf c0)
        obtain ⟨r, ro, rfl, _⟩ := hR.sb (by simp)
        obtain ⟨n2, hn2⟩ : ∃ n', nb = n' + 1 := ⟨b2.length, by rw [eb]; rfl⟩
        obtain ⟨d0, co, hsm, hU, hcU⟩ := hR.sb.tail (n := n2) hR.cb (by rw [List.length_cons] at eb; omega)
        have HD0 : Hid (∀ w', Fr (fun _ => False) wr w' → w'.cell? ⟨r, ro, none⟩ = some (.string y)) := hide (fun w' hf => hR.low hf d0)
        have hrest := hR.rest
        rw [hs] at hrest
        have hfuel := hR.fuel
        simp only [List.length_cons] at hfuel ea eb
        subst hn1
        subst hn2
        have HX := hide (And.intro hR (And.intro hrest (And.intro (show a2.length + b2.length ≤ f' by omega) (And.intro ea (And.intro eb eo)))))
        have HY := hide (And.intro (hT) (And.intro (hcT) (And.intro (hU) (hcU))))
        have HCC := hide (fun w' => unhide HC w' true true)
        clear hR hrest hfuel ea eb eo hs ho hT hcT c0 hU hcU d0
        go_wp2_with fail
        refine (unhide HH).mono ?_
        rintro e w1 ⟨rfl, hF⟩
        have c1 := unhide HC0 w1 hF
        have d1 := unhide HD0 w1 hF
        have HF := hide hF
        clear hF
        cases hp : p true true with
        | true =>
          rw [hp] at HCC HX
          go_wp2
          go_quiet (fail)
          have d2 : (w1.drewN nq).cell? ⟨r, ro, none⟩ = some (.string y) := d1
          generalize hwq : w1.drewN nq = wq at *
          have HQ : Hid (Fr (fun _ => False) wr wq) := hide (by rw [← hwq]; exact (unhide HF).drewN _)
          clear hwq
          go_wp2
          go_quiet (fail)
          go_wp2_with fail
          refine (unhide HCC _).mono ?_
          rintro e w2 ⟨rfl, hq⟩
          obtain rfl := hq.symm
          clear hq
          have HFd : Hid (Fr (fun _ => False) wr (wq.drewN nq)) := hide ((unhide HQ).drewN _)
          generalize wq.drewN nq = wd at *
          have HW : Hid (Fr (fun _ => False) wr (wd.alloc (.cells #[.string y] 9))) := hide ((unhide HFd).alloc _)
          have HK2 := hide ((unhide HX).1.row.keep (unhide HW)).row
          have HSR := hide (src_one (P := Tryz.prog) wd [.string y] 22 9 1 Tryz.underlying22 rfl (fun u hu => by simp only [List.mem_cons, List.not_mem_nil, or_false] at hu; subst hu; rfl) (W := wd.alloc (.cells #[.string y] 9)) (fun j => by rw [World.cell?_alloc_new]; simp))
          have HLE : Hid ((tkV out).length = no * 1) := hide (by rw [tkV_len, Nat.mul_one]; exact (unhide HX).2.2.2.2.2.symm)
          have HNO : Hid (no ≤ 200000) := hide (by have := unhide HOL; have := (unhide HX).2.2.2.2.2; omega)
          clear c1 d1 d2
          go_wp2_with (at_builtin; refine wpList_append_krow _ rfl (.tmp 41) (.tmp 43) 22 22 rfl 9 info _ 1 (by omega) Tryz.underlying22 (unhide HI).1 (unhide HI).2.1 rfl (unhide HI).2.2.1 rfl (unhide HK2) (unhide HLE) _ _ 1 rfl (unhide HSR) (by rw [(unhide HI).2.2.2]; have := unhide HNO; omega) (by have := unhide HNO; omega) ?_)
          intro ao' cap' w3 g' hK hG
          have HN := hide ((unhide HX).1.app (unhide HW) (unhide HY).1 (unhide HY).2.1 (unhide HY).2.2.1 (unhide HY).2.2.2 hK hG (unhide HX).2.1 (unhide HX).2.2.1)
          have HE := hide (unhide HX).2.2.2
          clear hK hG HX HY HK2 HSR HLE HW HFd
          go_wp2
          exact ⟨⟨n1, n2, no + 1, _, _, _, _, ao', cap', rfl, rfl, rfl, by omega, _, _, _, g', f', by have := (unhide HE).1; omega, by have := (unhide HE).2.1; omega, by have := (unhide HE).2.2; simp; omega, unhide HN⟩, by simp [slen] <;> omega⟩
        | false =>
          rw [hp] at HCC HX
          go_wp2
          go_quiet (fail)
          have d2 : (w1.drewN nq).cell? ⟨r, ro, none⟩ = some (.string y) := d1
          generalize hwq : w1.drewN nq = wq at *
          have HQ : Hid (Fr (fun _ => False) wr wq) := hide (by rw [← hwq]; exact (unhide HF).drewN _)
          clear hwq
          go_wp2
          go_quiet (fail)
          go_wp2_with fail
          refine (unhide HCC _).mono ?_
          rintro e w2 ⟨rfl, hq⟩
          obtain rfl := hq.symm
          clear hq
          have HFd : Hid (Fr (fun _ => False) wr (wq.drewN nq)) := hide ((unhide HQ).drewN _)
          have HN := hide ((unhide HX).1.skip (unhide HFd) (unhide HY).1 (unhide HY).2.1 (unhide HY).2.2.1 (unhide HY).2.2.2 (unhide HX).2.1 (unhide HX).2.2.1)
          have HE := hide (unhide HX).2.2.2
          clear HX HY
          go_wp2
          exact ⟨⟨n1, n2, no, _, _, _, _, ao, cap, rfl, rfl, rfl, by omega, _, _, _, g, f', by have := (unhide HE).1; omega, by have := (unhide HE).2.1; omega, by have := (unhide HE).2.2; omega, unhide HN⟩, by simp [slen] <;> omega⟩
      · rw [ho] at HH
        subst e2
        obtain ⟨r, ro, rfl, _⟩ := hR.sb (by simp)
        obtain ⟨n2, hn2⟩ : ∃ n', nb = n' + 1 := ⟨b2.length, by rw [eb]; rfl⟩
        obtain ⟨d0, co, hsm, hU, hcU⟩ := hR.sb.tail (n := n2) hR.cb (by rw [List.length_cons] at eb; omega)
        have HD0 : Hid (∀ w', Fr (fun _ => False) wr w' → w'.cell? ⟨r, ro, none⟩ = some (.string y)) := hide (fun w' hf => hR.low hf d0)
        have hrest := hR.rest
        rw [hs] at hrest
        have hfuel := hR.fuel
        simp only [List.length_cons] at hfuel ea eb
        subst hn2
        have HX := hide (And.intro hR (And.intro hrest (And.intro (show a'.length + b2.length ≤ f' by omega) (And.intro ea (And.intro eb eo)))))
        have HY := hide (And.intro (hR.sa) (And.intro (hR.ca) (And.intro (hU) (hcU))))
        have HCC := hide (fun w' => unhide HC w' false true)
        clear hR hrest hfuel ea eb eo hs ho hU hcU d0
        go_wp2_with fail
        refine (unhide HH).mono ?_
        rintro e w1 ⟨rfl, hF⟩
        have d1 := unhide HD0 w1 hF
        have HF := hide hF
        clear hF
        cases hp : p false true with
        | true =>
          rw [hp] at HCC HX
          go_wp2
          go_quiet (fail)
          go_wp2_with fail
          refine (unhide HCC _).mono ?_
          rintro e w2 ⟨rfl, hq⟩
          obtain rfl := hq.symm
          clear hq
          have HFd : Hid (Fr (fun _ => False) wr (w1.drewN nq)) := hide ((unhide HF).drewN _)
          generalize w1.drewN nq = wd at *
          have HW : Hid (Fr (fun _ => False) wr (wd.alloc (.cells #[.string y] 9))) := hide ((unhide HFd).alloc _)
          have HK2 := hide ((unhide HX).1.row.keep (unhide HW)).row
          have HSR := hide (src_one (P := Tryz.prog) wd [.string y] 22 9 1 Tryz.underlying22 rfl (fun u hu => by simp only [List.mem_cons, List.not_mem_nil, or_false] at hu; subst hu; rfl) (W := wd.alloc (.cells #[.string y] 9)) (fun j => by rw [World.cell?_alloc_new]; simp))
          have HLE : Hid ((tkV out).length = no * 1) := hide (by rw [tkV_len, Nat.mul_one]; exact (unhide HX).2.2.2.2.2.symm)
          have HNO : Hid (no ≤ 200000) := hide (by have := unhide HOL; have := (unhide HX).2.2.2.2.2; omega)
          clear d1
          go_wp2_with (at_builtin; refine wpList_append_krow _ rfl (.tmp 41) (.tmp 43) 22 22 rfl 9 info _ 1 (by omega) Tryz.underlying22 (unhide HI).1 (unhide HI).2.1 rfl (unhide HI).2.2.1 rfl (unhide HK2) (unhide HLE) _ _ 1 rfl (unhide HSR) (by rw [(unhide HI).2.2.2]; have := unhide HNO; omega) (by have := unhide HNO; omega) ?_)
          intro ao' cap' w3 g' hK hG
          have HN := hide ((unhide HX).1.app (unhide HW) (unhide HY).1 (unhide HY).2.1 (unhide HY).2.2.1 (unhide HY).2.2.2 hK hG (unhide HX).2.1 (unhide HX).2.2.1)
          have HE := hide (unhide HX).2.2.2
          clear hK hG HX HY HK2 HSR HLE HW HFd
          go_wp2
          exact ⟨⟨na, n2, no + 1, _, _, _, _, ao', cap', rfl, rfl, rfl, by omega, _, _, _, g', f', by have := (unhide HE).1; omega, by have := (unhide HE).2.1; omega, by have := (unhide HE).2.2; simp; omega, unhide HN⟩, by simp [slen] <;> omega⟩
        | false =>
          rw [hp] at HCC HX
          go_wp2
          go_quiet (fail)
          go_wp2_with fail
          refine (unhide HCC _).mono ?_
          rintro e w2 ⟨rfl, hq⟩
          obtain rfl := hq.symm
          clear hq
          have HFd : Hid (Fr (fun _ => False) wr (w1.drewN nq)) := hide ((unhide HF).drewN _)
          have HN := hide ((unhide HX).1.skip (unhide HFd) (unhide HY).1 (unhide HY).2.1 (unhide HY).2.2.1 (unhide HY).2.2.2 (unhide HX).2.1 (unhide HX).2.2.1)
          have HE := hide (unhide HX).2.2.2
          clear HX HY
          go_wp2
          exact ⟨⟨na, n2, no, _, _, _, _, ao, cap, rfl, rfl, rfl, by omega, _, _, _, g, f', by have := (unhide HE).1; omega, by have := (unhide HE).2.1; omega, by have := (unhide HE).2.2; omega, unhide HN⟩, by simp [slen] <;> omega⟩
    · have hz0 : na = 0 ∧ nb = 0 := by omega
      obtain ⟨rfl, rfl⟩ := hz0
      have HE : Hid (∃ g, LO w wr ao cap g R ∧ Fr (fun _ => False) w wr ∧ no = R.length) := hide (by
        obtain ⟨a', b', out, g, f, ea, eb, eo, hR⟩ := unhide HR
        have h1 : a' = [] := List.eq_nil_of_length_eq_zero ea.symm
        have h2 : b' = [] := List.eq_nil_of_length_eq_zero eb.symm
        subst h1 h2
        have h3 : out = R := by
          have := hR.rest
          cases f <;> simpa [chF] using this
        subst h3
        exact ⟨g, hR.row, hR.fr, eo⟩)
      clear HR
      go_wp2
      go_ret
      obtain ⟨g, h1, h2, h3⟩ := unhide HE
      exact ⟨ao, cap, g, by rw [h3]; rfl, h1, h2⟩

theorem either_any (w : World) (a b : List ByteArray) (ax : Option Addr) (cx : Nat) (bx : Option Addr) (cb : Nat) (ha : SAt w ax a) (hca : a.length ≤ cx) (hb : SAt w bx b) (hcb : b.length ≤ cb) (hla : a.length ≤ 100000) (hlb : b.length ≤ 100000) :
    Calls Tryz.prog 29 #[.slice ax a.length cx, .slice bx b.length cb] w fun e w' => ∃ ao cap g, e = .returned (.slice ao (eiL a b).length cap) ∧ LO w w' ao cap g (eiL a b) ∧ Fr (fun _ => False) w w' := by
  have R := hide (chosenE_any w a b ax cx bx cb ha hca hb hcb hla hlb)
  clear ha hca hb hcb hla hlb
  unfold eiL
  go_enter Tryz.func29, Tryz.ntmps29
  go_wp2_with fail
  refine (unhide R).mono ?_
  rintro e w1 ⟨ao, cap, g, rfl, h1, h2⟩
  have H := hide (And.intro h1 h2)
  clear h1 h2
  go_wp2
  go_ret
  exact ⟨ao, cap, g, rfl, (unhide H).1, (unhide H).2⟩

theorem wantedC_any (x y : Bool) (w : World) : Calls Tryz.prog 53 #[.bool x, .bool y] w fun e w' => e = .returned (.bool ((fun a b => a && b) x y)) ∧ w' = w := by
  cases x <;> cases y <;>
  · go_enter Tryz.func53, Tryz.ntmps53
    go_wp2
    go_ret
    exact ⟨rfl, rfl⟩

set_option maxHeartbeats 4000000 in
set_option maxRecDepth 20000 in
theorem chosenC_any (w : World) (a b : List ByteArray) (ax : Option Addr) (cx : Nat) (bx : Option Addr) (cb : Nat) (ha : SAt w ax a) (hca : a.length ≤ cx) (hb : SAt w bx b) (hcb : b.length ≤ cb) (hla : a.length ≤ 100000) (hlb : b.length ≤ 100000) :
    Calls Tryz.prog 44 #[.slice ax a.length cx, .slice bx b.length cb, .func (.func 53) #[] #[]] w fun e w' => ∃ ao cap g, e = .returned (.slice ao (chL (fun a b => a && b) a b).length cap) ∧ LO w w' ao cap g (chL (fun a b => a && b) a b) ∧ Fr (fun _ => False) w w' := by
  have HC : Hid (∀ (w' : World) (x y : Bool), Calls Tryz.prog 53 #[.bool x, .bool y] w' fun e w'' => e = .returned (.bool ((fun a b => a && b) x y)) ∧ w'' = w') := hide (fun w' x y => wantedC_any x y w')
  obtain ⟨info, hi, hzz⟩ := Option.map_eq_some_iff.1 Token_info
  simp only [Prod.mk.injEq] at hzz
  have HI := hide (And.intro hi hzz)
  have HL : Hid ((chL (fun a b => a && b) a b).length ≤ 200000) := hide (Nat.le_trans (chF_len _ _ _ _) (by omega))
  have H0 : Hid (ChI w w (fun a b => a && b) (chL (fun a b => a && b) a b) a b [] ax cx bx cb none 0 0 (a.length + b.length)) := hide ⟨ha, hca, hb, hcb, LO.nil _ _, Fr.refl _ _, rfl, Nat.le_refl _⟩
  have HM : Hid (a.length + b.length ≤ 200000) := hide (by omega)
  generalize chL (fun a b => a && b) a b = R at *
  generalize (fun a b => a && b) = p at *
  clear ha hca hb hcb hla hlb hi hzz
  go_enter Tryz.func44, Tryz.ntmps44
  go_wp2
  go_loopw [0, 1, 7, 8, 9, 10, 11] (fun s0 s1 s7 _ _ _ _ wr => ∃ (na nb no : Nat) (ax : Option Addr) (cx : Nat) (bx : Option Addr) (cb : Nat) (ao : Option Addr) (cap : Nat), s0 = .slice ax na cx ∧ s1 = .slice bx nb cb ∧ s7 = .slice ao no cap ∧ na + nb ≤ 200000 ∧ Hid (∃ (a b out : List ByteArray) (g f : Nat), na = a.length ∧ nb = b.length ∧ no = out.length ∧ ChI w wr p R a b out ax cx bx cb ao cap g f)) (fun s0 s1 _ _ _ _ _ _ => slen s0 + slen s1)
  case atStart => exact ⟨_, _, 0, ax, cx, bx, cb, none, 0, rfl, rfl, rfl, unhide HM, a, b, [], 0, _, rfl, rfl, rfl, unhide H0⟩
  case round =>
    clear H0 HM
    obtain ⟨na, nb, no, ax', cx', bx', cb', ao, cap, rfl, rfl, rfl, hn, HR⟩ := hrel
    by_cases hz : 0 < na + nb
    · obtain ⟨a', b', out, g, f, ea, eb, eo, hR⟩ := unhide HR
      clear HR
      obtain ⟨f', hf'⟩ : ∃ f', f = f' + 1 := ⟨f - 1, by have := hR.fuel; omega⟩
      subst hf'
      have hgt : ((na : Int) + (nb : Int) > 0) := by omega
      have HH := hide (heads_any wr a' b' ax' cx' bx' cb' (hR.sa.keep hR.fr) (hR.sb.keep hR.fr))
      have HOL : Hid (out.length ≤ 200000) := hide (by have := congrArg List.length hR.rest; rw [List.length_append] at this; have := unhide HL; omega)
      rw [← ea, ← eb] at HH
      rcases chF_step p f' a' b' (by omega) with ⟨ho, x, a2, e1, hs⟩ | ⟨ho, x, a2, y, b2, e1, e2, hs⟩ | ⟨ho, y, b2, e2, hs⟩
      · rw [ho] at HH
        subst e1
        obtain ⟨q, qo, rfl, _⟩ := hR.sa (by simp)
        obtain ⟨n1, hn1⟩ : ∃ n', na = n' + 1 := ⟨a2.length, by rw [ea]; rfl⟩
        obtain ⟨c0, bo, hsl, hT, hcT⟩ := hR.sa.tail (n := n1) hR.ca (by rw [List.length_cons] at ea; omega)
        have HC0 : Hid (∀ w', Fr (fun _ => False) wr w' → w'.cell? ⟨q, qo, none⟩ = some (.string x)) := hide (fun w' hf => hR.low hf c0)
        have hrest := hR.rest
        rw [hs] at hrest
        have hfuel := hR.fuel
        simp only [List.length_cons] at hfuel ea eb
        subst hn1
        have HX := hide (And.intro hR (And.intro hrest (And.intro (show a2.length + b'.length ≤ f' by omega) (And.intro ea (And.intro eb eo)))))
        have HY := hide (And.intro (hT) (And.intro (hcT) (And.intro (hR.sb) (hR.cb))))
        have HCC := hide (fun w' => unhide HC w' true false)
        clear hR hrest hfuel ea eb eo hs ho hT hcT c0
        go_wp2_with fail
        refine (unhide HH).mono ?_
        rintro e w1 ⟨rfl, hF⟩
        have c1 := unhide HC0 w1 hF
        have HF := hide hF
        clear hF
        cases hp : p true false with
        | true =>
          rw [hp] at HCC HX
          go_wp2
          go_quiet (fail)
          go_wp2_with fail
          refine (unhide HCC _).mono ?_
          rintro e w2 ⟨rfl, hq⟩
          obtain rfl := hq.symm
          clear hq
          have HFd : Hid (Fr (fun _ => False) wr (w1.drewN nq)) := hide ((unhide HF).drewN _)
          generalize w1.drewN nq = wd at *
          have HW : Hid (Fr (fun _ => False) wr (wd.alloc (.cells #[.string x] 9))) := hide ((unhide HFd).alloc _)
          have HK2 := hide ((unhide HX).1.row.keep (unhide HW)).row
          have HSR := hide (src_one (P := Tryz.prog) wd [.string x] 22 9 1 Tryz.underlying22 rfl (fun u hu => by simp only [List.mem_cons, List.not_mem_nil, or_false] at hu; subst hu; rfl) (W := wd.alloc (.cells #[.string x] 9)) (fun j => by rw [World.cell?_alloc_new]; simp))
          have HLE : Hid ((tkV out).length = no * 1) := hide (by rw [tkV_len, Nat.mul_one]; exact (unhide HX).2.2.2.2.2.symm)
          have HNO : Hid (no ≤ 200000) := hide (by have := unhide HOL; have := (unhide HX).2.2.2.2.2; omega)
          clear c1 
          go_wp2_with (at_builtin; refine wpList_append_krow _ rfl (.tmp 41) (.tmp 43) 22 22 rfl 9 info _ 1 (by omega) Tryz.underlying22 (unhide HI).1 (unhide HI).2.1 rfl (unhide HI).2.2.1 rfl (unhide HK2) (unhide HLE) _ _ 1 rfl (unhide HSR) (by rw [(unhide HI).2.2.2]; have := unhide HNO; omega) (by have := unhide HNO; omega) ?_)
          intro ao' cap' w3 g' hK hG
          have HN := hide ((unhide HX).1.app (unhide HW) (unhide HY).1 (unhide HY).2.1 (unhide HY).2.2.1 (unhide HY).2.2.2 hK hG (unhide HX).2.1 (unhide HX).2.2.1)
          have HE := hide (unhide HX).2.2.2
          clear hK hG HX HY HK2 HSR HLE HW HFd
          go_wp2
          exact ⟨⟨n1, nb, no + 1, _, _, _, _, ao', cap', rfl, rfl, rfl, by omega, _, _, _, g', f', by have := (unhide HE).1; omega, by have := (unhide HE).2.1; omega, by have := (unhide HE).2.2; simp; omega, unhide HN⟩, by simp [slen] <;> omega⟩
        | false =>
          rw [hp] at HCC HX
          go_wp2
          go_quiet (fail)
          go_wp2_with fail
          refine (unhide HCC _).mono ?_
          rintro e w2 ⟨rfl, hq⟩
          obtain rfl := hq.symm
          clear hq
          have HFd : Hid (Fr (fun _ => False) wr (w1.drewN nq)) := hide ((unhide HF).drewN _)
          have HN := hide ((unhide HX).1.skip (unhide HFd) (unhide HY).1 (unhide HY).2.1 (unhide HY).2.2.1 (unhide HY).2.2.2 (unhide HX).2.1 (unhide HX).2.2.1)
          have HE := hide (unhide HX).2.2.2
          clear HX HY
          go_wp2
          exact ⟨⟨n1, nb, no, _, _, _, _, ao, cap, rfl, rfl, rfl, by omega, _, _, _, g, f', by have := (unhide HE).1; omega, by have := (unhide HE).2.1; omega, by have := (unhide HE).2.2; omega, unhide HN⟩, by simp [slen] <;> omega⟩
      · rw [ho] at HH
        subst e1
        subst e2
        obtain ⟨q, qo, rfl, _⟩ := hR.sa (by simp)
        obtain ⟨n1, hn1⟩ : ∃ n', na = n' + 1 := ⟨a2.length, by rw [ea]; rfl⟩
        obtain ⟨c0, bo, hsl, hT, hcT⟩ := hR.sa.tail (n := n1) hR.ca (by rw [List.length_cons] at ea; omega)
        have HC0 : Hid (∀ w', Fr (fun _ => False) wr w' → w'.cell? ⟨q, qo, none⟩ = some (.string x)) := hide (fun w' hf => hR.low hf c0)
        obtain ⟨r, ro, rfl, _⟩ := hR.sb (by simp)
        obtain ⟨n2, hn2⟩ : ∃ n', nb = n' + 1 := ⟨b2.length, by rw [eb]; rfl⟩
        obtain ⟨d0, co, hsm, hU, hcU⟩ := hR.sb.tail (n := n2) hR.cb (by rw [List.length_cons] at eb; omega)
        have HD0 : Hid (∀ w', Fr (fun _ => False) wr w' → w'.cell? ⟨r, ro, none⟩ = some (.string y)) := hide (fun w' hf => hR.low hf d0)
        have hrest := hR.rest
        rw [hs] at hrest
        have hfuel := hR.fuel
        simp only [List.length_cons] at hfuel ea eb
        subst hn1
        subst hn2
        have HX := hide (And.intro hR (And.intro hrest (And.intro (show a2.length + b2.length ≤ f' by omega) (And.intro ea (And.intro eb eo)))))
        have HY := hide (And.intro (hT) (And.intro (hcT) (And.intro (hU) (hcU))))
        have HCC := hide (fun w' => unhide HC w' true true)
        clear hR hrest hfuel ea eb eo hs ho hT hcT c0 hU hcU d0
        go_wp2_with fail
        refine (unhide HH).mono ?_
        rintro e w1 ⟨rfl, hF⟩
        have c1 := unhide HC0 w1 hF
        have d1 := unhide HD0 w1 hF
        have HF := hide hF
        clear hF
        cases hp : p true true with
        | true =>
          rw [hp] at HCC HX
          go_wp2
          go_quiet (fail)
          have d2 : (w1.drewN nq).cell? ⟨r, ro, none⟩ = some (.string y) := d1
          generalize hwq : w1.drewN nq = wq at *
          have HQ : Hid (Fr (fun _ => False) wr wq) := hide (by rw [← hwq]; exact (unhide HF).drewN _)
          clear hwq
          go_wp2
          go_quiet (fail)
          go_wp2_with fail
          refine (unhide HCC _).mono ?_
          rintro e w2 ⟨rfl, hq⟩
          obtain rfl := hq.symm
          clear hq
          have HFd : Hid (Fr (fun _ => False) wr (wq.drewN nq)) := hide ((unhide HQ).drewN _)
          generalize wq.drewN nq = wd at *
          have HW : Hid (Fr (fun _ => False) wr (wd.alloc (.cells #[.string y] 9))) := hide ((unhide HFd).alloc _)
          have HK2 := hide ((unhide HX).1.row.keep (unhide HW)).row
          have HSR := hide (src_one (P := Tryz.prog) wd [.string y] 22 9 1 Tryz.underlying22 rfl (fun u hu => by simp only [List.mem_cons, List.not_mem_nil, or_false] at hu; subst hu; rfl) (W := wd.alloc (.cells #[.string y] 9)) (fun j => by rw [World.cell?_alloc_new]; simp))
          have HLE : Hid ((tkV out).length = no * 1) := hide (by rw [tkV_len, Nat.mul_one]; exact (unhide HX).2.2.2.2.2.symm)
          have HNO : Hid (no ≤ 200000) := hide (by have := unhide HOL; have := (unhide HX).2.2.2.2.2; omega)
          clear c1 d1 d2
          go_wp2_with (at_builtin; refine wpList_append_krow _ rfl (.tmp 41) (.tmp 43) 22 22 rfl 9 info _ 1 (by omega) Tryz.underlying22 (unhide HI).1 (unhide HI).2.1 rfl (unhide HI).2.2.1 rfl (unhide HK2) (unhide HLE) _ _ 1 rfl (unhide HSR) (by rw [(unhide HI).2.2.2]; have := unhide HNO; omega) (by have := unhide HNO; omega) ?_)
          intro ao' cap' w3 g' hK hG
          have HN := hide ((unhide HX).1.app (unhide HW) (unhide HY).1 (unhide HY).2.1 (unhide HY).2.2.1 (unhide HY).2.2.2 hK hG (unhide HX).2.1 (unhide HX).2.2.1)
          have HE := hide (unhide HX).2.2.2
          clear hK hG HX HY HK2 HSR HLE HW HFd
          go_wp2
          exact ⟨⟨n1, n2, no + 1, _, _, _, _, ao', cap', rfl, rfl, rfl, by omega, _, _, _, g', f', by have := (unhide HE).1; omega, by have := (unhide HE).2.1; omega, by have := (unhide HE).2.2; simp; omega, unhide HN⟩, by simp [slen] <;> omega⟩
        | false =>
          rw [hp] at HCC HX
          go_wp2
          go_quiet (fail)
          have d2 : (w1.drewN nq).cell? ⟨r, ro, none⟩ = some (.string y) := d1
          generalize hwq : w1.drewN nq = wq at *
          have HQ : Hid (Fr (fun _ => False) wr wq) := hide (by rw [← hwq]; exact (unhide HF).drewN _)
          clear hwq
          go_wp2
          go_quiet (fail)
          go_wp2_with fail
          refine (unhide HCC _).mono ?_
          rintro e w2 ⟨rfl, hq⟩
          obtain rfl := hq.symm
          clear hq
          have HFd : Hid (Fr (fun _ => False) wr (wq.drewN nq)) := hide ((unhide HQ).drewN _)
          have HN := hide ((unhide HX).1.skip (unhide HFd) (unhide HY).1 (unhide HY).2.1 (unhide HY).2.2.1 (unhide HY).2.2.2 (unhide HX).2.1 (unhide HX).2.2.1)
          have HE := hide (unhide HX).2.2.2
          clear HX HY
          go_wp2
          exact ⟨⟨n1, n2, no, _, _, _, _, ao, cap, rfl, rfl, rfl, by omega, _, _, _, g, f', by have := (unhide HE).1; omega, by have := (unhide HE).2.1; omega, by have := (unhide HE).2.2; omega, unhide HN⟩, by simp [slen] <;> omega⟩
      · rw [ho] at HH
        subst e2
        obtain ⟨r, ro, rfl, _⟩ := hR.sb (by simp)
        obtain ⟨n2, hn2⟩ : ∃ n', nb = n' + 1 := ⟨b2.length, by rw [eb]; rfl⟩
        obtain ⟨d0, co, hsm, hU, hcU⟩ := hR.sb.tail (n := n2) hR.cb (by rw [List.length_cons] at eb; omega)
        have HD0 : Hid (∀ w', Fr (fun _ => False) wr w' → w'.cell? ⟨r, ro, none⟩ = some (.string y)) := hide (fun w' hf => hR.low hf d0)
        have hrest := hR.rest
        rw [hs] at hrest
        have hfuel := hR.fuel
        simp only [List.length_cons] at hfuel ea eb
        subst hn2
        have HX := hide (And.intro hR (And.intro hrest (And.intro (show a'.length + b2.length ≤ f' by omega) (And.intro ea (And.intro eb eo)))))
        have HY := hide (And.intro (hR.sa) (And.intro (hR.ca) (And.intro (hU) (hcU))))
        have HCC := hide (fun w' => unhide HC w' false true)
        clear hR hrest hfuel ea eb eo hs ho hU hcU d0
        go_wp2_with fail
        refine (unhide HH).mono ?_
        rintro e w1 ⟨rfl, hF⟩
        have d1 := unhide HD0 w1 hF
        have HF := hide hF
        clear hF
        cases hp : p false true with
        | true =>
          rw [hp] at HCC HX
          go_wp2
          go_quiet (fail)
          go_wp2_with fail
          refine (unhide HCC _).mono ?_
          rintro e w2 ⟨rfl, hq⟩
          obtain rfl := hq.symm
          clear hq
          have HFd : Hid (Fr (fun _ => False) wr (w1.drewN nq)) := hide ((unhide HF).drewN _)
          generalize w1.drewN nq = wd at *
          have HW : Hid (Fr (fun _ => False) wr (wd.alloc (.cells #[.string y] 9))) := hide ((unhide HFd).alloc _)
          have HK2 := hide ((unhide HX).1.row.keep (unhide HW)).row
          have HSR := hide (src_one (P := Tryz.prog) wd [.string y] 22 9 1 Tryz.underlying22 rfl (fun u hu => by simp only [List.mem_cons, List.not_mem_nil, or_false] at hu; subst hu; rfl) (W := wd.alloc (.cells #[.string y] 9)) (fun j => by rw [World.cell?_alloc_new]; simp))
          have HLE : Hid ((tkV out).length = no * 1) := hide (by rw [tkV_len, Nat.mul_one]; exact (unhide HX).2.2.2.2.2.symm)
          have HNO : Hid (no ≤ 200000) := hide (by have := unhide HOL; have := (unhide HX).2.2.2.2.2; omega)
          clear d1
          go_wp2_with (at_builtin; refine wpList_append_krow _ rfl (.tmp 41) (.tmp 43) 22 22 rfl 9 info _ 1 (by omega) Tryz.underlying22 (unhide HI).1 (unhide HI).2.1 rfl (unhide HI).2.2.1 rfl (unhide HK2) (unhide HLE) _ _ 1 rfl (unhide HSR) (by rw [(unhide HI).2.2.2]; have := unhide HNO; omega) (by have := unhide HNO; omega) ?_)
          intro ao' cap' w3 g' hK hG
          have HN := hide ((unhide HX).1.app (unhide HW) (unhide HY).1 (unhide HY).2.1 (unhide HY).2.2.1 (unhide HY).2.2.2 hK hG (unhide HX).2.1 (unhide HX).2.2.1)
          have HE := hide (unhide HX).2.2.2
          clear hK hG HX HY HK2 HSR HLE HW HFd
          go_wp2
          exact ⟨⟨na, n2, no + 1, _, _, _, _, ao', cap', rfl, rfl, rfl, by omega, _, _, _, g', f', by have := (unhide HE).1; omega, by have := (unhide HE).2.1; omega, by have := (unhide HE).2.2; simp; omega, unhide HN⟩, by simp [slen] <;> omega⟩
        | false =>
          rw [hp] at HCC HX
          go_wp2
          go_quiet (fail)
          go_wp2_with fail
          refine (unhide HCC _).mono ?_
          rintro e w2 ⟨rfl, hq⟩
          obtain rfl := hq.symm
          clear hq
          have HFd : Hid (Fr (fun _ => False) wr (w1.drewN nq)) := hide ((unhide HF).drewN _)
          have HN := hide ((unhide HX).1.skip (unhide HFd) (unhide HY).1 (unhide HY).2.1 (unhide HY).2.2.1 (unhide HY).2.2.2 (unhide HX).2.1 (unhide HX).2.2.1)
          have HE := hide (unhide HX).2.2.2
          clear HX HY
          go_wp2
          exact ⟨⟨na, n2, no, _, _, _, _, ao, cap, rfl, rfl, rfl, by omega, _, _, _, g, f', by have := (unhide HE).1; omega, by have := (unhide HE).2.1; omega, by have := (unhide HE).2.2; omega, unhide HN⟩, by simp [slen] <;> omega⟩
    · have hz0 : na = 0 ∧ nb = 0 := by omega
      obtain ⟨rfl, rfl⟩ := hz0
      have HE : Hid (∃ g, LO w wr ao cap g R ∧ Fr (fun _ => False) w wr ∧ no = R.length) := hide (by
        obtain ⟨a', b', out, g, f, ea, eb, eo, hR⟩ := unhide HR
        have h1 : a' = [] := List.eq_nil_of_length_eq_zero ea.symm
        have h2 : b' = [] := List.eq_nil_of_length_eq_zero eb.symm
        subst h1 h2
        have h3 : out = R := by
          have := hR.rest
          cases f <;> simpa [chF] using this
        subst h3
        exact ⟨g, hR.row, hR.fr, eo⟩)
      clear HR
      go_wp2
      go_ret
      obtain ⟨g, h1, h2, h3⟩ := unhide HE
      exact ⟨ao, cap, g, by rw [h3]; rfl, h1, h2⟩

theorem common_any (w : World) (a b : List ByteArray) (ax : Option Addr) (cx : Nat) (bx : Option Addr) (cb : Nat) (ha : SAt w ax a) (hca : a.length ≤ cx) (hb : SAt w bx b) (hcb : b.length ≤ cb) (hla : a.length ≤ 100000) (hlb : b.length ≤ 100000) :
    Calls Tryz.prog 43 #[.slice ax a.length cx, .slice bx b.length cb] w fun e w' => ∃ ao cap g, e = .returned (.slice ao (coL a b).length cap) ∧ LO w w' ao cap g (coL a b) ∧ Fr (fun _ => False) w w' := by
  have R := hide (chosenC_any w a b ax cx bx cb ha hca hb hcb hla hlb)
  clear ha hca hb hcb hla hlb
  unfold coL
  go_enter Tryz.func43, Tryz.ntmps43
  go_wp2_with fail
  refine (unhide R).mono ?_
  rintro e w1 ⟨ao, cap, g, rfl, h1, h2⟩
  have H := hide (And.intro h1 h2)
  clear h1 h2
  go_wp2
  go_ret
  exact ⟨ao, cap, g, rfl, (unhide H).1, (unhide H).2⟩

theorem wantedW_any (x y : Bool) (w : World) : Calls Tryz.prog 46 #[.bool x, .bool y] w fun e w' => e = .returned (.bool ((fun _ b => !b) x y)) ∧ w' = w := by
  cases x <;> cases y <;>
  · go_enter Tryz.func46, Tryz.ntmps46
    go_wp2
    go_ret
    exact ⟨rfl, rfl⟩

set_option maxHeartbeats 4000000 in
set_option maxRecDepth 20000 in
theorem chosenW_any (w : World) (a b : List ByteArray) (ax : Option Addr) (cx : Nat) (bx : Option Addr) (cb : Nat) (ha : SAt w ax a) (hca : a.length ≤ cx) (hb : SAt w bx b) (hcb : b.length ≤ cb) (hla : a.length ≤ 100000) (hlb : b.length ≤ 100000) :
    Calls Tryz.prog 44 #[.slice ax a.length cx, .slice bx b.length cb, .func (.func 46) #[] #[]] w fun e w' => ∃ ao cap g, e = .returned (.slice ao (chL (fun _ b => !b) a b).length cap) ∧ LO w w' ao cap g (chL (fun _ b => !b) a b) ∧ Fr (fun _ => False) w w' := by
  have HC : Hid (∀ (w' : World) (x y : Bool), Calls Tryz.prog 46 #[.bool x, .bool y] w' fun e w'' => e = .returned (.bool ((fun _ b => !b) x y)) ∧ w'' = w') := hide (fun w' x y => wantedW_any x y w')
  obtain ⟨info, hi, hzz⟩ := Option.map_eq_some_iff.1 Token_info
  simp only [Prod.mk.injEq] at hzz
  have HI := hide (And.intro hi hzz)
  have HL : Hid ((chL (fun _ b => !b) a b).length ≤ 200000) := hide (Nat.le_trans (chF_len _ _ _ _) (by omega))
  have H0 : Hid (ChI w w (fun _ b => !b) (chL (fun _ b => !b) a b) a b [] ax cx bx cb none 0 0 (a.length + b.length)) := hide ⟨ha, hca, hb, hcb, LO.nil _ _, Fr.refl _ _, rfl, Nat.le_refl _⟩
  have HM : Hid (a.length + b.length ≤ 200000) := hide (by omega)
  generalize chL (fun _ b => !b) a b = R at *
  generalize (fun _ b => !b) = p at *
  clear ha hca hb hcb hla hlb hi hzz
  go_enter Tryz.func44, Tryz.ntmps44
  go_wp2
  go_loopw [0, 1, 7, 8, 9, 10, 11] (fun s0 s1 s7 _ _ _ _ wr => ∃ (na nb no : Nat) (ax : Option Addr) (cx : Nat) (bx : Option Addr) (cb : Nat) (ao : Option Addr) (cap : Nat), s0 = .slice ax na cx ∧ s1 = .slice bx nb cb ∧ s7 = .slice ao no cap ∧ na + nb ≤ 200000 ∧ Hid (∃ (a b out : List ByteArray) (g f : Nat), na = a.length ∧ nb = b.length ∧ no = out.length ∧ ChI w wr p R a b out ax cx bx cb ao cap g f)) (fun s0 s1 _ _ _ _ _ _ => slen s0 + slen s1)
  case atStart => exact ⟨_, _, 0, ax, cx, bx, cb, none, 0, rfl, rfl, rfl, unhide HM, a, b, [], 0, _, rfl, rfl, rfl, unhide H0⟩
  case round =>
    clear H0 HM
    obtain ⟨na, nb, no, ax', cx', bx', cb', ao, cap, rfl, rfl, rfl, hn, HR⟩ := hrel
    by_cases hz : 0 < na + nb
    · obtain ⟨a', b', out, g, f, ea, eb, eo, hR⟩ := unhide HR
      clear HR
      obtain ⟨f', hf'⟩ : ∃ f', f = f' + 1 := ⟨f - 1, by have := hR.fuel; omega⟩
      subst hf'
      have hgt : ((na : Int) + (nb : Int) > 0) := by omega
      have HH := hide (heads_any wr a' b' ax' cx' bx' cb' (hR.sa.keep hR.fr) (hR.sb.keep hR.fr))
      have HOL : Hid (out.length ≤ 200000) := hide (by have := congrArg List.length hR.rest; rw [List.length_append] at this; have := unhide HL; omega)
      rw [← ea, ← eb] at HH
      rcases chF_step p f' a' b' (by omega) with ⟨ho, x, a2, e1, hs⟩ | ⟨ho, x, a2, y, b2, e1, e2, hs⟩ | ⟨ho, y, b2, e2, hs⟩
      · rw [ho] at HH
        subst e1
        obtain ⟨q, qo, rfl, _⟩ := hR.sa (by simp)
        obtain ⟨n1, hn1⟩ : ∃ n', na = n' + 1 := ⟨a2.length, by rw [ea]; rfl⟩
        obtain ⟨c0, bo, hsl, hT, hcT⟩ := hR.sa.tail (n := n1) hR.ca (by rw [List.length_cons] at ea; omega)
        have HC0 : Hid (∀ w', Fr (fun _ => False) wr w' → w'.cell? ⟨q, qo, none⟩ = some (.string x)) := hide (fun w' hf => hR.low hf c0)
        have hrest := hR.rest
        rw [hs] at hrest
        have hfuel := hR.fuel
        simp only [List.length_cons] at hfuel ea eb
        subst hn1
        have HX := hide (And.intro hR (And.intro hrest (And.intro (show a2.length + b'.length ≤ f' by omega) (And.intro ea (And.intro eb eo)))))
        have HY := hide (And.intro (hT) (And.intro (hcT) (And.intro (hR.sb) (hR.cb))))
        have HCC := hide (fun w' => unhide HC w' true false)
        clear hR hrest hfuel ea eb eo hs ho hT hcT c0
        go_wp2_with fail
        refine (unhide HH).mono ?_
        rintro e w1 ⟨rfl, hF⟩
        have c1 := unhide HC0 w1 hF
        have HF := hide hF
        clear hF
        cases hp : p true false with
        | true =>
          rw [hp] at HCC HX
          go_wp2
          go_quiet (fail)
          go_wp2_with fail
          refine (unhide HCC _).mono ?_
          rintro e w2 ⟨rfl, hq⟩
          obtain rfl := hq.symm
          clear hq
          have HFd : Hid (Fr (fun _ => False) wr (w1.drewN nq)) := hide ((unhide HF).drewN _)
          generalize w1.drewN nq = wd at *
          have HW : Hid (Fr (fun _ => False) wr (wd.alloc (.cells #[.string x] 9))) := hide ((unhide HFd).alloc _)
          have HK2 := hide ((unhide HX).1.row.keep (unhide HW)).row
          have HSR := hide (src_one (P := Tryz.prog) wd [.string x] 22 9 1 Tryz.underlying22 rfl (fun u hu => by simp only [List.mem_cons, List.not_mem_nil, or_false] at hu; subst hu; rfl) (W := wd.alloc (.cells #[.string x] 9)) (fun j => by rw [World.cell?_alloc_new]; simp))
          have HLE : Hid ((tkV out).length = no * 1) := hide (by rw [tkV_len, Nat.mul_one]; exact (unhide HX).2.2.2.2.2.symm)
          have HNO : Hid (no ≤ 200000) := hide (by have := unhide HOL; have := (unhide HX).2.2.2.2.2; omega)
          clear c1 
          go_wp2_with (at_builtin; refine wpList_append_krow _ rfl (.tmp 41) (.tmp 43) 22 22 rfl 9 info _ 1 (by omega) Tryz.underlying22 (unhide HI).1 (unhide HI).2.1 rfl (unhide HI).2.2.1 rfl (unhide HK2) (unhide HLE) _ _ 1 rfl (unhide HSR) (by rw [(unhide HI).2.2.2]; have := unhide HNO; omega) (by have := unhide HNO; omega) ?_)
          intro ao' cap' w3 g' hK hG
          have HN := hide ((unhide HX).1.app (unhide HW) (unhide HY).1 (unhide HY).2.1 (unhide HY).2.2.1 (unhide HY).2.2.2 hK hG (unhide HX).2.1 (unhide HX).2.2.1)
          have HE := hide (unhide HX).2.2.2
          clear hK hG HX HY HK2 HSR HLE HW HFd
          go_wp2
          exact ⟨⟨n1, nb, no + 1, _, _, _, _, ao', cap', rfl, rfl, rfl, by omega, _, _, _, g', f', by have := (unhide HE).1; omega, by have := (unhide HE).2.1; omega, by have := (unhide HE).2.2; simp; omega, unhide HN⟩, by simp [slen] <;> omega⟩
        | false =>
          rw [hp] at HCC HX
          go_wp2
          go_quiet (fail)
          go_wp2_with fail
          refine (unhide HCC _).mono ?_
          rintro e w2 ⟨rfl, hq⟩
          obtain rfl := hq.symm
          clear hq
          have HFd : Hid (Fr (fun _ => False) wr (w1.drewN nq)) := hide ((unhide HF).drewN _)
          have HN := hide ((unhide HX).1.skip (unhide HFd) (unhide HY).1 (unhide HY).2.1 (unhide HY).2.2.1 (unhide HY).2.2.2 (unhide HX).2.1 (unhide HX).2.2.1)
          have HE := hide (unhide HX).2.2.2
          clear HX HY
          go_wp2
          exact ⟨⟨n1, nb, no, _, _, _, _, ao, cap, rfl, rfl, rfl, by omega, _, _, _, g, f', by have := (unhide HE).1; omega, by have := (unhide HE).2.1; omega, by have := (unhide HE).2.2; omega, unhide HN⟩, by simp [slen] <;> omega⟩
      · rw [ho] at HH
        subst e1
        subst e2
        obtain ⟨q, qo, rfl, _⟩ := hR.sa (by simp)
        obtain ⟨n1, hn1⟩ : ∃ n', na = n' + 1 := ⟨a2.length, by rw [ea]; rfl⟩
        obtain ⟨c0, bo, hsl, hT, hcT⟩ := hR.sa.tail (n := n1) hR.ca (by rw [List.length_cons] at ea; omega)
        have HC0 : Hid (∀ w', Fr (fun _ => False) wr w' → w'.cell? ⟨q, qo, none⟩ = some (.string x)) := hide (fun w' hf => hR.low hf c0)
        obtain ⟨r, ro, rfl, _⟩ := hR.sb (by simp)
        obtain ⟨n2, hn2⟩ : ∃ n', nb = n' + 1 := ⟨b2.length, by rw [eb]; rfl⟩
        obtain ⟨d0, co, hsm, hU, hcU⟩ := hR.sb.tail (n := n2) hR.cb (by rw [List.length_cons] at eb; omega)
        have HD0 : Hid (∀ w', Fr (fun _ => False) wr w' → w'.cell? ⟨r, ro, none⟩ = some (.string y)) := hide (fun w' hf => hR.low hf d0)
        have hrest := hR.rest
        rw [hs] at hrest
        have hfuel := hR.fuel
        simp only [List.length_cons] at hfuel ea eb
        subst hn1
        subst hn2
        have HX := hide (And.intro hR (And.intro hrest (And.intro (show a2.length + b2.length ≤ f' by omega) (And.intro ea (And.intro eb eo)))))
        have HY := hide (And.intro (hT) (And.intro (hcT) (And.intro (hU) (hcU))))
        have HCC := hide (fun w' => unhide HC w' true true)
        clear hR hrest hfuel ea eb eo hs ho hT hcT c0 hU hcU d0
        go_wp2_with fail
        refine (unhide HH).mono ?_
        rintro e w1 ⟨rfl, hF⟩
        have c1 := unhide HC0 w1 hF
        have d1 := unhide HD0 w1 hF
        have HF := hide hF
        clear hF
        cases hp : p true true with
        | true =>
          rw [hp] at HCC HX
          go_wp2
          go_quiet (fail)
          have d2 : (w1.drewN nq).cell? ⟨r, ro, none⟩ = some (.string y) := d1
          generalize hwq : w1.drewN nq = wq at *
          have HQ : Hid (Fr (fun _ => False) wr wq) := hide (by rw [← hwq]; exact (unhide HF).drewN _)
          clear hwq
          go_wp2
          go_quiet (fail)
          go_wp2_with fail
          refine (unhide HCC _).mono ?_
          rintro e w2 ⟨rfl, hq⟩
          obtain rfl := hq.symm
          clear hq
          have HFd : Hid (Fr (fun _ => False) wr (wq.drewN nq)) := hide ((unhide HQ).drewN _)
          generalize wq.drewN nq = wd at *
          have HW : Hid (Fr (fun _ => False) wr (wd.alloc (.cells #[.string y] 9))) := hide ((unhide HFd).alloc _)
          have HK2 := hide ((unhide HX).1.row.keep (unhide HW)).row
          have HSR := hide (src_one (P := Tryz.prog) wd [.string y] 22 9 1 Tryz.underlying22 rfl (fun u hu => by simp only [List.mem_cons, List.not_mem_nil, or_false] at hu; subst hu; rfl) (W := wd.alloc (.cells #[.string y] 9)) (fun j => by rw [World.cell?_alloc_new]; simp))
          have HLE : Hid ((tkV out).length = no * 1) := hide (by rw [tkV_len, Nat.mul_one]; exact (unhide HX).2.2.2.2.2.symm)
          have HNO : Hid (no ≤ 200000) := hide (by have := unhide HOL; have := (unhide HX).2.2.2.2.2; omega)
          clear c1 d1 d2
          go_wp2_with (at_builtin; refine wpList_append_krow _ rfl (.tmp 41) (.tmp 43) 22 22 rfl 9 info _ 1 (by omega) Tryz.underlying22 (unhide HI).1 (unhide HI).2.1 rfl (unhide HI).2.2.1 rfl (unhide HK2) (unhide HLE) _ _ 1 rfl (unhide HSR) (by rw [(unhide HI).2.2.2]; have := unhide HNO; omega) (by have := unhide HNO; omega) ?_)
          intro ao' cap' w3 g' hK hG
          have HN := hide ((unhide HX).1.app (unhide HW) (unhide HY).1 (unhide HY).2.1 (unhide HY).2.2.1 (unhide HY).2.2.2 hK hG (unhide HX).2.1 (unhide HX).2.2.1)
          have HE := hide (unhide HX).2.2.2
          clear hK hG HX HY HK2 HSR HLE HW HFd
          go_wp2
          exact ⟨⟨n1, n2, no + 1, _, _, _, _, ao', cap', rfl, rfl, rfl, by omega, _, _, _, g', f', by have := (unhide HE).1; omega, by have := (unhide HE).2.1; omega, by have := (unhide HE).2.2; simp; omega, unhide HN⟩, by simp [slen] <;> omega⟩
        | false =>
          rw [hp] at HCC HX
          go_wp2
          go_quiet (fail)
          have d2 : (w1.drewN nq).cell? ⟨r, ro, none⟩ = some (.string y) := d1
          generalize hwq : w1.drewN nq = wq at *
          have HQ : Hid (Fr (fun _ => False) wr wq) := hide (by rw [← hwq]; exact (unhide HF).drewN _)
          clear hwq
          go_wp2
          go_quiet (fail)
          go_wp2_with fail
          refine (unhide HCC _).mono ?_
          rintro e w2 ⟨rfl, hq⟩
          obtain rfl := hq.symm
          clear hq
          have HFd : Hid (Fr (fun _ => False) wr (wq.drewN nq)) := hide ((unhide HQ).drewN _)
          have HN := hide ((unhide HX).1.skip (unhide HFd) (unhide HY).1 (unhide HY).2.1 (unhide HY).2.2.1 (unhide HY).2.2.2 (unhide HX).2.1 (unhide HX).2.2.1)
          have HE := hide (unhide HX).2.2.2
          clear HX HY
          go_wp2
          exact ⟨⟨n1, n2, no, _, _, _, _, ao, cap, rfl, rfl, rfl, by omega, _, _, _, g, f', by have := (unhide HE).1; omega, by have := (unhide HE).2.1; omega, by have := (unhide HE).2.2; omega, unhide HN⟩, by simp [slen] <;> omega⟩
      · rw [ho] at HH
        subst e2
        obtain ⟨r, ro, rfl, _⟩ := hR.sb (by simp)
        obtain ⟨n2, hn2⟩ : ∃ n', nb = n' + 1 := ⟨b2.length, by rw [eb]; rfl⟩
        obtain ⟨d0, co, hsm, hU, hcU⟩ := hR.sb.tail (n := n2) hR.cb (by rw [List.length_cons] at eb; omega)
        have HD0 : Hid (∀ w', Fr (fun _ => False) wr w' → w'.cell? ⟨r, ro, none⟩ = some (.string y)) := hide (fun w' hf => hR.low hf d0)
        have hrest := hR.rest
        rw [hs] at hrest
        have hfuel := hR.fuel
        simp only [List.length_cons] at hfuel ea eb
        subst hn2
        have HX := hide (And.intro hR (And.intro hrest (And.intro (show a'.length + b2.length ≤ f' by omega) (And.intro ea (And.intro eb eo)))))
        have HY := hide (And.intro (hR.sa) (And.intro (hR.ca) (And.intro (hU) (hcU))))
        have HCC := hide (fun w' => unhide HC w' false true)
        clear hR hrest hfuel ea eb eo hs ho hU hcU d0
        go_wp2_with fail
        refine (unhide HH).mono ?_
        rintro e w1 ⟨rfl, hF⟩
        have d1 := unhide HD0 w1 hF
        have HF := hide hF
        clear hF
        cases hp : p false true with
        | true =>
          rw [hp] at HCC HX
          go_wp2
          go_quiet (fail)
          go_wp2_with fail
          refine (unhide HCC _).mono ?_
          rintro e w2 ⟨rfl, hq⟩
          obtain rfl := hq.symm
          clear hq
          have HFd : Hid (Fr (fun _ => False) wr (w1.drewN nq)) := hide ((unhide HF).drewN _)
          generalize w1.drewN nq = wd at *
          have HW : Hid (Fr (fun _ => False) wr (wd.alloc (.cells #[.string y] 9))) := hide ((unhide HFd).alloc _)
          have HK2 := hide ((unhide HX).1.row.keep (unhide HW)).row
          have HSR := hide (src_one (P := Tryz.prog) wd [.string y] 22 9 1 Tryz.underlying22 rfl (fun u hu => by simp only [List.mem_cons, List.not_mem_nil, or_false] at hu; subst hu; rfl) (W := wd.alloc (.cells #[.string y] 9)) (fun j => by rw [World.cell?_alloc_new]; simp))
          have HLE : Hid ((tkV out).length = no * 1) := hide (by rw [tkV_len, Nat.mul_one]; exact (unhide HX).2.2.2.2.2.symm)
          have HNO : Hid (no ≤ 200000) := hide (by have := unhide HOL; have := (unhide HX).2.2.2.2.2; omega)
          clear d1
          go_wp2_with (at_builtin; refine wpList_append_krow _ rfl (.tmp 41) (.tmp 43) 22 22 rfl 9 info _ 1 (by omega) Tryz.underlying22 (unhide HI).1 (unhide HI).2.1 rfl (unhide HI).2.2.1 rfl (unhide HK2) (unhide HLE) _ _ 1 rfl (unhide HSR) (by rw [(unhide HI).2.2.2]; have := unhide HNO; omega) (by have := unhide HNO; omega) ?_)
          intro ao' cap' w3 g' hK hG
          have HN := hide ((unhide HX).1.app (unhide HW) (unhide HY).1 (unhide HY).2.1 (unhide HY).2.2.1 (unhide HY).2.2.2 hK hG (unhide HX).2.1 (unhide HX).2.2.1)
          have HE := hide (unhide HX).2.2.2
          clear hK hG HX HY HK2 HSR HLE HW HFd
          go_wp2
          exact ⟨⟨na, n2, no + 1, _, _, _, _, ao', cap', rfl, rfl, rfl, by omega, _, _, _, g', f', by have := (unhide HE).1; omega, by have := (unhide HE).2.1; omega, by have := (unhide HE).2.2; simp; omega, unhide HN⟩, by simp [slen] <;> omega⟩
        | false =>
          rw [hp] at HCC HX
          go_wp2
          go_quiet (fail)
          go_wp2_with fail
          refine (unhide HCC _).mono ?_
          rintro e w2 ⟨rfl, hq⟩
          obtain rfl := hq.symm
          clear hq
          have HFd : Hid (Fr (fun _ => False) wr (w1.drewN nq)) := hide ((unhide HF).drewN _)
          have HN := hide ((unhide HX).1.skip (unhide HFd) (unhide HY).1 (unhide HY).2.1 (unhide HY).2.2.1 (unhide HY).2.2.2 (unhide HX).2.1 (unhide HX).2.2.1)
          have HE := hide (unhide HX).2.2.2
          clear HX HY
          go_wp2
          exact ⟨⟨na, n2, no, _, _, _, _, ao, cap, rfl, rfl, rfl, by omega, _, _, _, g, f', by have := (unhide HE).1; omega, by have := (unhide HE).2.1; omega, by have := (unhide HE).2.2; omega, unhide HN⟩, by simp [slen] <;> omega⟩
    · have hz0 : na = 0 ∧ nb = 0 := by omega
      obtain ⟨rfl, rfl⟩ := hz0
      have HE : Hid (∃ g, LO w wr ao cap g R ∧ Fr (fun _ => False) w wr ∧ no = R.length) := hide (by
        obtain ⟨a', b', out, g, f, ea, eb, eo, hR⟩ := unhide HR
        have h1 : a' = [] := List.eq_nil_of_length_eq_zero ea.symm
        have h2 : b' = [] := List.eq_nil_of_length_eq_zero eb.symm
        subst h1 h2
        have h3 : out = R := by
          have := hR.rest
          cases f <;> simpa [chF] using this
        subst h3
        exact ⟨g, hR.row, hR.fr, eo⟩)
      clear HR
      go_wp2
      go_ret
      obtain ⟨g, h1, h2, h3⟩ := unhide HE
      exact ⟨ao, cap, g, by rw [h3]; rfl, h1, h2⟩

theorem without_any (w : World) (a b : List ByteArray) (ax : Option Addr) (cx : Nat) (bx : Option Addr) (cb : Nat) (ha : SAt w ax a) (hca : a.length ≤ cx) (hb : SAt w bx b) (hcb : b.length ≤ cb) (hla : a.length ≤ 100000) (hlb : b.length ≤ 100000) :
    Calls Tryz.prog 30 #[.slice ax a.length cx, .slice bx b.length cb] w fun e w' => ∃ ao cap g, e = .returned (.slice ao (woL a b).length cap) ∧ LO w w' ao cap g (woL a b) ∧ Fr (fun _ => False) w w' := by
  have R := hide (chosenW_any w a b ax cx bx cb ha hca hb hcb hla hlb)
  clear ha hca hb hcb hla hlb
  unfold woL
  go_enter Tryz.func30, Tryz.ntmps30
  go_wp2_with fail
  refine (unhide R).mono ?_
  rintro e w1 ⟨ao, cap, g, rfl, h1, h2⟩
  have H := hide (And.intro h1 h2)
  clear h1 h2
  go_wp2
  go_ret
  exact ⟨ao, cap, g, rfl, (unhide H).1, (unhide H).2⟩

end Go.Proofs.YtmhljehkodhggaaGreat

