/- Times as texts: twoDigits, Text. -/
import Derived.Test.YtnnhhfajcecdkaaDoorS1
import Derived.Test.YtnnhhfajcecdkaaDoorX0
import Derived.Test.YtnnhhfajcecdkaaDoorM2
import Derived.Lib.QuietBelow
import Derived.BigQuiet
namespace Go.Proofs.YtnnhhfajcecdkaaDoor
open Go.RowKit Go.Sort

abbrev Pow (w : World) : Prop := Lib.TabIs Tryd.prog w "internal/strconv.uint64pow10" .u64 Lib.pow10Tab

/-- What the program's variables hold. -/
structure Env (w : World) : Prop where
  pow : Pow w
  days : ∀ j, j < 7 → w.cell? ⟨0, j, none⟩ = some (.string ⟨(word j).toArray⟩)
  err : ∃ ev, w.cell? ⟨2, 0, none⟩ = some ev ∧ (ev = .nilIface ∨ ∃ te pe, ev = .iface te pe)

theorem tab_frame {w w' : World} (h : Pow w) (hf : Fr (fun _ => False) w w') : Pow w' := by
  unfold Pow Lib.TabIs World.var? at *
  cases hg : Tryd.prog.globalNamed "internal/strconv.uint64pow10" with
  | none => simp [hg] at h
  | some g =>
    simp only [hg, Option.bind_some] at h ⊢
    have hlt : g < w.heap.size := by
      rcases Nat.lt_or_ge g w.heap.size with h' | h'
      · exact h'
      · rw [Array.getElem?_eq_none h'] at h; simp at h
    rw [hf.block g hlt (fun t => t)]
    exact h

theorem cell_frame {w w' : World} {a : Addr} {v : Value} (h : w.cell? a = some v) (hf : Fr (fun _ => False) w w') : w'.cell? a = some v :=
  (hf.cell (World.block_lt_of_cell? _ _ h) (fun t => t)).trans h

theorem Env.frame {w w' : World} (h : Env w) (hf : Fr (fun _ => False) w w') : Env w' := by
  obtain ⟨ev, h1, h2⟩ := h.err
  exact ⟨tab_frame h.pow hf, fun j hj => cell_frame (h.days j hj) hf, ev, cell_frame h1 hf, h2⟩

theorem fr_grow {w : World} (k : Nat) (os : Array Obj) : Fr (fun _ => False) w (Sort.grow (w.drewN k) os) := by
  refine ⟨rfl, rfl, rfl, ?_, fun i hi _ => ?_⟩
  · simp [Sort.grow]
  · show (w.heap ++ os)[i]? = w.heap[i]?
    exact Array.getElem?_append_left hi

theorem fr_below {w w' : World} (h : Fr (fun _ => False) w w') : Below w.heap.size w w' := h.below (Nat.le_refl _) (fun _ t => t.elim)
theorem below_fr {w w' : World} (h : Below w.heap.size w w') : Fr (fun _ => False) w w' := Fr.of_below h (fun k h1 h2 => absurd h1 (by omega))

theorem itoa_any (w : World) (u : Nat) (hu : u ≤ 9223372036854775807) (hT : Pow w) : Calls Tryd.prog 32 #[.int .i64 (u : Int)] w fun e w' => e = .returned (.string ⟨(Lib.decDigits u).toArray⟩) ∧ Fr (fun _ => False) w w' := by
  refine (Tryd.strconv_Itoa (u : Int) (by omega) (by omega) w hT).mono ?_
  rintro e w' ⟨rfl, k, os, rfl⟩
  have : Lib.itoa (u : Int) = Lib.decDigits u := by unfold Lib.itoa; rw [if_neg (by omega)]; simp
  exact ⟨by rw [this], fr_grow k os⟩

theorem ba_append (a b : List UInt8) (A B : Array UInt8) (hA : A = a.toArray) (hB : B = b.toArray) : ((⟨A⟩ : ByteArray) ++ (⟨B⟩ : ByteArray)) = ⟨(a ++ b).toArray⟩ := by
  subst hA hB
  apply ByteArray.ext
  simp

theorem two_any (w : World) (n : Nat) (hn : n < 100) : Calls Tryd.prog 33 #[.int .i64 (n : Int)] w fun e w' => e = .returned (.string ⟨(two n).toArray⟩) ∧ w' = w := by
  have c1 := fun w => Tryd.strconv_Itoa_small (n / 10) (by omega) w
  have c2 := fun w => Tryd.strconv_Itoa_small (n % 10) (by omega) w
  have HX : Hid (two n = [UInt8.ofNat (48 + n / 10)] ++ [UInt8.ofNat (48 + n % 10)]) := rfl
  rw [Lib.decDigits_one (show n / 10 < 10 by omega)] at c1
  rw [Lib.decDigits_one (show n % 10 < 10 by omega)] at c2
  rw [show ((n / 10 : Nat) : Int) = (n : Int) / 10 by simp] at c1
  rw [show ((n % 10 : Nat) : Int) = (n : Int) % 10 by omega] at c2
  generalize UInt8.ofNat (48 + n / 10) = x at c1 HX
  generalize UInt8.ofNat (48 + n % 10) = y at c2 HX
  go_enter Tryd.func33, Tryd.ntmps33
  go_wp2_with fail
  refine (c1 w).mono ?_
  rintro e w2 ⟨rfl, rfl⟩
  go_wp2_with fail
  refine (c2 w2).mono ?_
  rintro e w3 ⟨rfl, rfl⟩
  go_wp2
  go_ret
  refine ⟨?_, rfl⟩
  rw [unhide HX]
  refine congrArg (fun z => Ending.returned (Value.string z)) ?_
  apply ByteArray.ext
  simp

theorem dec_len (u : Nat) (hu : u ≤ 9223372036854775808) : (Lib.decDigits u).length ≤ 20 := by
  rw [Lib.decDigits_length]
  exact nDigits_le 19 u (by omega)

theorem text_right (w : World) (u : Nat) (hu : u ≤ 2147483648) (hE : Env w) :
    Calls Tryd.prog 22 #[.int .i64 (u : Int)] w fun e w' => e = .returned (.string ⟨(textN u).toArray⟩) ∧ Fr (fun _ => False) w w' := by
  have R0 := right_any w (u : Int)
  rw [(right_iff _).2 ⟨by omega, by omega⟩] at R0
  have HI := hide (fun (d : Nat) (os : Array Obj) => itoa_any (grow (redrawn w d) os) (u / 10080) (by omega) (tab_frame hE.pow (below_fr (below_regrown w d os))))
  have c1 := fun w => two_any w (u % 1440 / 60) (by omega)
  have c2 := fun w => two_any w (u % 60) (by omega)
  have hl := dec_len (u / 10080) (by omega)
  have hw := word_length (u % 10080 / 1440)
  have X := fun d os => cell_regrown (hE.days (u % 10080 / 1440) (by omega)) d os
  have HX : Hid (textN u = (((((Lib.decDigits (u / 10080) ++ [32]) ++ word (u % 10080 / 1440)) ++ [32]) ++ two (u % 1440 / 60)) ++ [58]) ++ two (u % 60)) := by
    unfold Hid textN
    simp
  rw [show ((u % 1440 / 60 : Nat) : Int) = (u : Int) % 1440 / 60 by omega] at c1
  rw [show ((u % 60 : Nat) : Int) = (u : Int) % 60 by omega] at c2
  rw [show ((u / 10080 : Nat) : Int) = (u : Int) / 10080 by simp] at HI
  have ht : (two (u % 1440 / 60)).length = 2 := rfl
  have ht2 : (two (u % 60)).length = 2 := rfl
  generalize Lib.decDigits (u / 10080) = D at HI hl HX
  generalize two (u % 1440 / 60) = x at c1 HX ht
  generalize two (u % 60) = y at c2 HX ht2
  generalize hdd : u % 10080 / 1440 = dd at *
  have hd7 : dd < 7 := by omega
  have hdi : (u : Int) % 10080 / 1440 = (dd : Int) := by omega
  clear hdd
  generalize word dd = W at X HX hw
  clear hE
  go_enter Tryd.func22, Tryd.ntmps22
  go_wp2_with fail
  refine R0.mono ?_
  rintro e w1 ⟨rfl, rfl⟩
  go_wp2_with fail
  refine wp_region_quiet_below (by kernel_rfl) (by kernel_rfl) ?_
  repeat (first | go_big_quiet_skip | (go_big_quiet_want; go_big_quiet_op; first | go_big_quiet_on | go_big_quiet_call (exact Calls.regrown_of ((unhide HI _ _).mono fun _ _ h => ⟨h.1, fr_below h.2⟩))))
  refine wpQuiet_nil ?_
  intro _ hw'
  obtain ⟨⟨dq, osq⟩, hw''⟩ := hw'
  subst hw''
  have HB := hide (below_fr (below_regrown w1 dq osq))
  clear HI X
  generalize grow (redrawn w1 dq) osq = w2 at HB ⊢
  go_wp2_with fail
  refine (c1 w2).mono ?_
  rintro e w3 ⟨rfl, rfl⟩
  go_wp2_with fail
  refine (c2 w3).mono ?_
  rintro e w4 ⟨rfl, rfl⟩
  go_wp2
  go_ret
  refine ⟨?_, unhide HB⟩
  rw [unhide HX]
  refine congrArg (fun z => Ending.returned (Value.string z)) ?_
  apply ByteArray.ext
  simp

theorem text_any (w : World) (t : Int) (hE : Env w) :
    Calls Tryd.prog 22 #[.int .i64 t] w fun e w' => e = .returned (.string ⟨(text t).toArray⟩) ∧ Fr (fun _ => False) w w' := by
  cases h : right t with
  | true =>
    have hb := (right_iff t).1 h
    obtain ⟨u, rfl⟩ := Int.eq_ofNat_of_zero_le hb.1
    rw [text_nat u (by omega)]
    exact text_right w u (by omega) hE
  | false =>
    rw [text_not t h]
    have R := right_any w t
    rw [h] at R
    clear h hE
    go_enter Tryd.func22, Tryd.ntmps22
    go_wp2_with fail
    refine R.mono ?_
    rintro e w1 ⟨rfl, rfl⟩
    go_wp2
    go_ret
    exact ⟨rfl, Fr.refl _ _⟩

end Go.Proofs.YtnnhhfajcecdkaaDoor
