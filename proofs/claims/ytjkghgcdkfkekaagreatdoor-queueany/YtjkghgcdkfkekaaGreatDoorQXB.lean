import Derived.Test.YtjkghgcdkfkekaaGreatDoorQXA
import Derived.Laws.IdiomStrings
import Derived.Lib.SliceRun
import Derived.Lib.QuietBelow
import Derived.BigQuiet
/- Contract: readChange. -/
namespace Go.Proofs.YtjkghgcdkfkekaaGreatDoor
open Go.RowKit

theorem stepR_ok (s : RS) (z v : Value) (a' : Nat) (hc : s.c = 0) : stepR s z (.ok (v, a')) = (v, ⟨a', s.a, 0, s.f⟩) := by simp [stepR, hc]
theorem stepR_err (s : RS) (z : Value) (x : Int) (hc : s.c = 0) : stepR s z (.error x) = (z, ⟨s.a, s.l, x, s.a⟩) := by simp [stepR, hc]
theorem stepR_dead (s : RS) (z : Value) (o : Except Int (Value × Nat)) (hc : s.c ≠ 0) : stepR s z o = (z, s) := by simp [stepR, hc]

theorem raw_ge (c : Cg) : 9 ≤ c.raw.length := by
  obtain ⟨r, e, _, _⟩ := qraw_split c.k c.s c.it
  show 9 ≤ (qraw c.k c.s c.it).length
  rw [e, List.length_append, qhead_length]; omega

/-- What is read of a record. -/
theorem q_reads (bs : Bs) : ∃ (k s : Nat) (it : Bs) (m : ByteArray) (s1 s2 s3 s4 : RS), stepR ⟨0, 0, 0, 0⟩ (.string ⟨#[]⟩) (oFixed bs 0 4) = (.string m, s1) ∧
    stepR s1 (.int .i64 0) (oNumber bs s1.a 1) = (.int .i64 (k : Int), s2) ∧ stepR s2 (.int .i64 0) (oNumber bs s2.a 4) = (.int .i64 (s : Int), s3) ∧
    stepR s3 (.string ⟨#[]⟩) (oText bs s3.a 256) = (.string ⟨it.toArray⟩, s4) ∧ k < 256 ∧ s < 4294967296 ∧ it.length ≤ 256 ∧ ∀ c : Cg, c.Ok → bs = c.raw → c.k = k ∧ c.s = s ∧ (k = 2 → c.it = it) := by
  by_cases h4 : bs.length < 4
  · have e1 : oFixed bs 0 4 = .error 10 := by unfold oFixed; rw [if_neg (by omega), if_pos (by omega)]
    refine ⟨0, 0, [], _, ⟨0, 0, 10, 0⟩, ⟨0, 0, 10, 0⟩, ⟨0, 0, 10, 0⟩, ⟨0, 0, 10, 0⟩, by rw [e1, stepR_err _ _ _ rfl]; rfl, stepR_dead _ _ _ (by decide), stepR_dead _ _ _ (by decide), stepR_dead _ _ _ (by decide), by omega, by omega, by simp, fun c _ e => ?_⟩
    have := raw_ge c; rw [← e] at this; omega
  · have e1 : oFixed bs 0 4 = .ok (.string ⟨((bs.drop 0).take 4).toArray⟩, 4) := by unfold oFixed; rw [if_neg (by omega), if_neg (by omega)]; rfl
    have f1 : stepR ⟨0, 0, 0, 0⟩ (.string ⟨#[]⟩) (oFixed bs 0 4) = (.string ⟨((bs.drop 0).take 4).toArray⟩, ⟨4, 0, 0, 0⟩) := by rw [e1, stepR_ok _ _ _ _ rfl]
    by_cases h5 : bs.length < 5
    · have e2 : oNumber bs 4 1 = .error 10 := by unfold oNumber; rw [if_neg (by omega), if_pos (by omega)]
      refine ⟨0, 0, [], _, ⟨4, 0, 0, 0⟩, ⟨4, 0, 10, 4⟩, ⟨4, 0, 10, 4⟩, ⟨4, 0, 10, 4⟩, f1, by show stepR _ _ (oNumber bs 4 1) = _; rw [e2, stepR_err _ _ _ rfl]; rfl, stepR_dead _ _ _ (by decide), stepR_dead _ _ _ (by decide), by omega, by omega, by simp, fun c _ e => ?_⟩
      have := raw_ge c; rw [← e] at this; omega
    · have l1 : ((bs.drop 4).take 1).length = 1 := by simp; omega
      have n1 := num_lt ((bs.drop 4).take 1)
      rw [l1] at n1
      have e2 : oNumber bs 4 1 = .ok (.int .i64 (num ((bs.drop 4).take 1)), 5) := by
        unfold oNumber; rw [if_neg (by omega), if_neg (by omega), if_neg (by show ¬ 9223372036854775807 < num ((bs.drop 4).take 1); omega)]; rfl
      have f2 : stepR ⟨4, 0, 0, 0⟩ (.int .i64 0) (oNumber bs 4 1) = (.int .i64 (num ((bs.drop 4).take 1) : Nat), ⟨5, 4, 0, 0⟩) := by rw [e2, stepR_ok _ _ _ _ rfl]
      by_cases h9 : bs.length < 9
      · have e3 : oNumber bs 5 4 = .error 10 := by unfold oNumber; rw [if_neg (by omega), if_pos (by omega)]
        refine ⟨num ((bs.drop 4).take 1), 0, [], _, ⟨4, 0, 0, 0⟩, ⟨5, 4, 0, 0⟩, ⟨5, 4, 10, 5⟩, ⟨5, 4, 10, 5⟩, f1, f2, by show stepR _ _ (oNumber bs 5 4) = _; rw [e3, stepR_err _ _ _ rfl]; rfl, stepR_dead _ _ _ (by decide), by omega, by omega, by simp, fun c _ e => ?_⟩
        have := raw_ge c; rw [← e] at this; omega
      · have l2 : ((bs.drop 5).take 4).length = 4 := by simp; omega
        have n2 := num_lt ((bs.drop 5).take 4)
        rw [l2, show (256 : Nat) ^ 4 = 4294967296 from rfl] at n2
        have e3 : oNumber bs 5 4 = .ok (.int .i64 (num ((bs.drop 5).take 4)), 9) := by
          unfold oNumber; rw [if_neg (by omega), if_neg (by omega), if_neg (by show ¬ 9223372036854775807 < num ((bs.drop 5).take 4); omega)]; rfl
        have f3 : stepR ⟨5, 4, 0, 0⟩ (.int .i64 0) (oNumber bs 5 4) = (.int .i64 (num ((bs.drop 5).take 4) : Nat), ⟨9, 5, 0, 0⟩) := by rw [e3, stepR_ok _ _ _ _ rfl]
        have key : ∀ c : Cg, c.Ok → bs = c.raw → c.k = num ((bs.drop 4).take 1) ∧ c.s = num ((bs.drop 5).take 4) ∧ (num ((bs.drop 4).take 1) = 2 → num ((bs.drop 9).take 2) = c.it.length ∧ bs.drop 11 = c.it ∧ c.it.length ≤ 256 ∧ bs.length = 11 + c.it.length) := by
          intro c hc e
          have hq := rdq_raw hc
          rw [← e] at hq
          have hk : num ((bs.drop 4).take 1) = c.k := by rw [← hq]; rfl
          refine ⟨hk.symm, by rw [← hq]; rfl, fun h2 => ?_⟩
          obtain ⟨r, er, r2, _⟩ := qraw_split c.k c.s c.it
          have hr := r2 (by omega)
          obtain ⟨t1, t2, t3⟩ := qhead_take c.k c.s r
          have e9 : bs.drop 9 = digs c.it.length 2 ++ c.it := by rw [e, show c.raw = qhead c.k c.s ++ r from er, t3, hr]
          have hit := hc.it
          refine ⟨?_, ?_, hit, ?_⟩
          · rw [e9, List.take_left' (digs_length _ 2), digs_num_lt (by omega)]
          · rw [show (11 : Nat) = 9 + 2 from rfl, ← List.drop_drop, e9, List.drop_left' (digs_length _ 2)]
          · have := congrArg List.length e9
            simp [digs_length] at this
            omega
        by_cases ht : bs.length < 11 ∨ 256 < num ((bs.drop 9).take 2) ∨ bs.length < 11 + num ((bs.drop 9).take 2)
        · have e4 : ∃ x : Int, oText bs 9 256 = .error x ∧ x ≠ 0 := by
            unfold oText
            rw [if_neg (by omega)]
            by_cases h11 : bs.length < 11
            · rw [if_pos (by omega)]; exact ⟨10, rfl, by decide⟩
            · rw [if_neg (by omega)]
              by_cases h256 : 256 < num ((bs.drop 9).take 2)
              · rw [if_pos (by omega)]; exact ⟨12, rfl, by decide⟩
              · rw [if_neg (by omega), if_pos (by omega)]; exact ⟨10, rfl, by decide⟩
          obtain ⟨x, e4, _⟩ := e4
          refine ⟨num ((bs.drop 4).take 1), num ((bs.drop 5).take 4), [], _, ⟨4, 0, 0, 0⟩, ⟨5, 4, 0, 0⟩, ⟨9, 5, 0, 0⟩, ⟨9, 5, x, 9⟩, f1, f2, f3, by show stepR _ _ (oText bs 9 256) = _; rw [e4, stepR_err _ _ _ rfl]; rfl, by omega, by omega, by simp, fun c hc e => ?_⟩
          obtain ⟨k1, k2, k3⟩ := key c hc e
          refine ⟨k1, k2, fun h2 => ?_⟩
          obtain ⟨a1, a2, a3, a4⟩ := k3 h2
          omega
        · have e4 : oText bs 9 256 = .ok (.string ⟨((bs.drop 11).take (num ((bs.drop 9).take 2))).toArray⟩, 11 + num ((bs.drop 9).take 2)) := by
            unfold oText
            rw [if_neg (by omega), if_neg (by omega), if_neg (by omega), if_neg (by omega)]
          refine ⟨num ((bs.drop 4).take 1), num ((bs.drop 5).take 4), (bs.drop 11).take (num ((bs.drop 9).take 2)), _, ⟨4, 0, 0, 0⟩, ⟨5, 4, 0, 0⟩, ⟨9, 5, 0, 0⟩, ⟨11 + num ((bs.drop 9).take 2), 9, 0, 0⟩, f1, f2, f3, by show stepR _ _ (oText bs 9 256) = _; rw [e4, stepR_ok _ _ _ _ rfl], by omega, by omega, by simp; omega, fun c hc e => ?_⟩
          obtain ⟨k1, k2, k3⟩ := key c hc e
          refine ⟨k1, k2, fun h2 => ?_⟩
          obtain ⟨a1, a2, a3, a4⟩ := k3 h2
          rw [a1, a2, List.take_length]

/-- What is read, held against the record. -/
theorem rdc_isSome (bs : Bs) (k s : Nat) (it : Bs) (hk : k < 256) (hs : s < 4294967296) (hit : it.length ≤ 256) (hno : k ≠ 2 → it = []) (hu : ∀ c : Cg, c.Ok → bs = c.raw → c.k = k ∧ c.s = s ∧ (k = 2 → c.it = it)) :
    (bs == qraw k s it) = (rdc bs).isSome ∧ ∀ c, rdc bs = some c → c = ⟨k, s, it⟩ := by
  have hok : (⟨k, s, it⟩ : Cg).Ok := ⟨hk, hs, hit, hno⟩
  have hsame : ∀ c, rdc bs = some c → c = ⟨k, s, it⟩ := by
    intro c hc
    obtain ⟨h1, h2⟩ := rdc_some hc
    obtain ⟨u1, u2, u3⟩ := hu c h1 h2
    rcases c with ⟨ck, cs, ci⟩
    simp only at u1 u2 u3
    subst u1 u2
    by_cases h : ck = 2
    · rw [u3 h]
    · rw [hno h, show ci = [] from h1.no h]
  refine ⟨?_, hsame⟩
  by_cases he : bs = qraw k s it
  · have : rdc bs = some ⟨k, s, it⟩ := by rw [he]; exact rdc_raw hok
    rw [this]
    simpa using he
  · have h0 : rdc bs = none := by
      cases hr : rdc bs with
      | none => rfl
      | some c =>
        have h1 := (rdc_some hr).2
        rw [hsame c hr] at h1
        exact absurd h1 he
    rw [h0]
    simpa using he

/-- Bytes in a new block that bears the mark of a conversion behind its end. -/
theorem Row.mark (w : World) (C : Array Value) (t : TypeId) (bs : List UInt8) (cap : Nat) (hC : C.size = cap) (hm : cap ≤ maxLen) (hl : bs.length ≤ cap) (hb : ∀ j (hj : j < bs.length), C[j]? = some (.int .u8 bs[j].toNat)) :
    Row (w.alloc (.cells C t (C.size, C.size + 1))) (.slice (some ⟨w.heap.size, 0, none⟩) bs.length cap) w.heap.size bs := by
  have hc : ∀ j, (w.alloc (.cells C t (C.size, C.size + 1))).cell? ⟨w.heap.size, j, none⟩ = C[j]? := fun j => cell_of_row _ _ _ _ t _ (heap_alloc_new w _)
  refine ⟨⟨_, _, rfl, hl, hm, fun _ => rfl, fun j hj => ⟨?_, ?_⟩⟩, fun j hj => ?_⟩
  · rw [hc j, Array.getElem?_eq_getElem (by omega)]; rfl
  · simp [World.frozen?, World.alloc, -World.alloc_eq]; omega
  · rw [hc j, hb j hj]

/-- A string's bytes. -/
theorem conv_str (w : World) (s : List UInt8) (hs : s.length ≤ 140737488355328) : ∃ C w1, (convert 9 28 (.string ⟨s.toArray⟩)).run Tryz.prog w = .ok (.slice (some ⟨w.heap.size, 0, none⟩) s.length C) w1 ∧ Hid (Row w1 (.slice (some ⟨w.heap.size, 0, none⟩) s.length C) w.heap.size s ∧ Fr (fun _ => False) w w1 ∧ w1.heap.size = w.heap.size + 1) := by
  have h := run_bytes_of_string (P := Tryz.prog) w 9 28 5 ⟨s.toArray⟩ Tryz.underlying9 Tryz.underlying28 Tryz.underlying5
  have hsz : (⟨s.toArray⟩ : ByteArray).size = s.length := rfl
  rw [hsz] at h
  have hge := grownCap_ge w s.length 0 5
  have hcm := grownCap_le_maxLen w s.length 0 5 (by simp only [maxLen]; omega)
  generalize grownCap w s.length 0 5 = C at h hge hcm
  refine ⟨C, _, h, Row.mark w.drew (bytesRow ⟨s.toArray⟩ C) 5 s C ?_ hcm hge (fun j hj => ?_), ((Fr.refl _ w).drew.alloc _), ?_⟩
  · simp [bytesRow, hsz]; omega
  · simp [bytesRow, Array.getElem?_append, hj]
  · simp

theorem raw_len (k s : Nat) (it : Bs) (h : it.length ≤ 65535) : (qraw k s it).length ≤ 65546 := by
  obtain ⟨r, e, r2, rn⟩ := qraw_split k s it
  rw [e, List.length_append, qhead_length]
  by_cases hk : k = 2
  · rw [r2 hk, List.length_append, digs_length]; omega
  · rw [rn hk]; simp

set_option maxHeartbeats 2000000 in
set_option maxRecDepth 20000 in
theorem readChange_any (w : World) (ao : Option Addr) (cap : Nat) (bs : Bs) (hB : BAt w ao cap bs) :
    Calls Tryz.prog 84 #[.slice ao bs.length cap] w fun e w' => ∃ (k s : Nat) (it : Bs) (io : Option Addr) (ic : Nat), e = .returned (.tuple #[.agg #[.int .i64 (k : Int), .int .i64 (s : Int), .slice io it.length ic], .bool (rdc bs).isSome]) ∧ (∀ c, rdc bs = some c → c = ⟨k, s, it⟩) ∧ BAt w' io ic it ∧ (∀ b off, 0 < it.length → io = some ⟨b, off, none⟩ → w.heap.size ≤ b) ∧ Fr (fun _ => False) w w' := by
  obtain ⟨k, s, it, m, s1, s2, s3, s4, e1, e2, e3, e4, hk, hs, hit, hu⟩ := q_reads bs
  have HR := fun (w' : World) (hF : Fr (fun _ => False) w w') => newreader_any w' ao cap bs (hB.later hF).1 (hB.later hF).2.1 (hB.later hF).2.2
  have HH := hide (And.intro HR (And.intro e1 (And.intro e2 (And.intro e3 (And.intro e4 hB)))))
  have HU := hide (And.intro hk (And.intro hs (And.intro hit hu)))
  clear HR e1 e2 e3 e4 hB hk hs hit hu
  go_enter Tryz.func84, Tryz.ntmps84
  go_wp2_with fail
  have hF0 : Fr (fun _ => False) w (w.alloc (.cells #[.int .i64 0, .int .i64 0, .slice none 0 0] 123)) := (Fr.refl _ _).alloc _
  have hbx := Bx.new w #[.int .i64 0, .int .i64 0, .slice none 0 0] 123
  generalize w.alloc (.cells #[.int .i64 0, .int .i64 0, .slice none 0 0] 123) = w0 at *
  obtain ⟨q, hq⟩ : ∃ q, q = w.heap.size := ⟨_, rfl⟩
  rw [← hq] at hbx ⊢
  have HW := hide (And.intro hF0 (And.intro hbx hq))
  refine ((unhide HH).1 _ hF0).mono ?_
  clear hF0 hbx hq
  rintro e w1 ⟨p, g1, rfl, hR1, hF1, hg1, hp1⟩
  have hO : ROwn w0 w1 p g1 bs ⟨0, 0, 0, 0⟩ := ⟨hF1, hp1, hg1, hR1⟩
  have HO := hide hO
  clear hR1 hF1 hg1 hp1 hO
  go_wp2_with fail
  refine (rfixed_any (unhide HO).2.2.2 4).mono ?_
  rw [(unhide HH).2.1]
  rintro e w2 ⟨rfl, k1, k2⟩
  have HO2 := hide ((unhide HO).next k1 k2)
  clear k1 k2 HO
  go_wp2_with fail
  refine (rnumber_any (unhide HO2).2.2.2 1).mono ?_
  rw [(unhide HH).2.2.1]
  rintro e w3 ⟨rfl, k1, k2⟩
  have HO3 := hide ((unhide HO2).next k1 k2)
  clear k1 k2 HO2
  go_wp2_with fail
  refine (rnumber_any (unhide HO3).2.2.2 4).mono ?_
  rw [(unhide HH).2.2.2.1]
  rintro e w4 ⟨rfl, k1, k2⟩
  have HO4 := hide ((unhide HO3).next k1 k2)
  clear k1 k2 HO3
  have hF4 : Fr (fun _ => False) w w4 := (unhide HW).1.trans (unhide HO4).1 (fun _ _ t => t)
  have hq4 : Bx w4 q #[.int .i64 0, .int .i64 0, .slice none 0 0] 123 := (unhide HW).2.1.keep (unhide HO4).1
  have hql : w.heap.size ≤ q := by have := (unhide HW).2.2; omega
  have HW0 : w.heap.size ≤ w0.heap.size := (unhide HW).1.size
  have HQP : q ≠ p := by have := (unhide HW).2.1.lt; have := (unhide HO4).2.1; omega
  have HQ := hide (And.intro hF4 (And.intro hq4 hql))
  clear hF4 hq4 hql HW
  by_cases hk2 : k = 2
  · have hk2I : (k : Int) = 2 := by omega
    have HK := hide hk2
    clear hk2
    go_wp2_with fail
    have hF5 : Fr (fun _ => False) w4 (w4.alloc (.cells #[.int .i64 2, .int .i64 (s : Int), .slice none 0 0] 123)) := (Fr.refl _ _).alloc _
    have hb5 := Bx.new w4 #[.int .i64 2, .int .i64 (s : Int), .slice none 0 0] 123
    have hR5 : s3.At (w4.alloc (.cells #[.int .i64 2, .int .i64 (s : Int), .slice none 0 0] 123)) p g1 bs := RAt.alloc (unhide HO4).2.2.2 _
    generalize w4.alloc (.cells #[.int .i64 2, .int .i64 (s : Int), .slice none 0 0] 123) = w5 at *
    have hpl : p < w4.heap.size := (unhide HO4).2.2.2.lt
    obtain ⟨g5, hg5⟩ : ∃ g5, g5 = w4.heap.size := ⟨_, rfl⟩
    rw [← hg5] at hb5 ⊢
    refine (rtext_any hR5 256).mono ?_
    rw [(unhide HH).2.2.2.2.1]
    rintro e w6 ⟨rfl, k1, k2⟩
    clear hR5 k1
    obtain ⟨ic, w7, hcv, H7⟩ := conv_str w6 it (by have := (unhide HU).2.2.1; omega)
    have HA := hide (And.intro hF5 (And.intro hb5 (And.intro k2 (And.intro hpl hg5))))
    have c5 : w7.cell? ⟨g5, 2, none⟩ = some (.slice none 0 0) := by
      have h6 : Bx w6 g5 _ _ := hb5.frame k2 (by show ¬ g5 = p; omega)
      exact ((h6.keep (unhide H7).2.1).cell 2)
    have f5 : w7.frozen? ⟨g5, 2, none⟩ = false := by
      have h6 : Bx w6 g5 _ _ := hb5.frame k2 (by show ¬ g5 = p; omega)
      exact ((h6.keep (unhide H7).2.1).frozen 2)
    have HG5 : Hid (q < g5) := by have := (unhide HQ).2.1.lt; exact hide (by omega)
    clear hF5 hb5 k2 hpl hg5
    go_wp2_with fail
    have HZ : Hid (Fr (fun _ => False) w (w7.setCell ⟨g5, 2, none⟩ (.slice (some ⟨w6.heap.size, 0, none⟩) it.length ic)) ∧ Bx (w7.setCell ⟨g5, 2, none⟩ (.slice (some ⟨w6.heap.size, 0, none⟩) it.length ic)) q #[.int .i64 0, .int .i64 0, .slice none 0 0] 123 ∧ Bx (w7.setCell ⟨g5, 2, none⟩ (.slice (some ⟨w6.heap.size, 0, none⟩) it.length ic)) g5 #[.int .i64 2, .int .i64 (s : Int), .slice (some ⟨w6.heap.size, 0, none⟩) it.length ic] 123 ∧ BAt (w7.setCell ⟨g5, 2, none⟩ (.slice (some ⟨w6.heap.size, 0, none⟩) it.length ic)) (some ⟨w6.heap.size, 0, none⟩) ic it ∧ BAt (w7.setCell ⟨g5, 2, none⟩ (.slice (some ⟨w6.heap.size, 0, none⟩) it.length ic)) ao cap bs ∧ w.heap.size ≤ q ∧ ∀ b off, 0 < it.length → some (⟨w6.heap.size, 0, none⟩ : Addr) = some ⟨b, off, none⟩ → w.heap.size ≤ b) := by
      obtain ⟨hF5, hb5, k2, hpl, hg5⟩ := unhide HA
      obtain ⟨hF4, hq4, hql⟩ := unhide HQ
      obtain ⟨hrow, hF7, hz7⟩ := unhide H7
      have hs4 := hF4.size
      have hs5 := hF5.size
      have hs6 := k2.size
      have hpo := (unhide HO4).2.1
      have hql4 := hq4.lt
      have hw0 : w.heap.size ≤ p := by
        have := (unhide HO4).2.1
        have h0 := HW0
        omega
      have h56 : Fr (fun k => k = p ∨ k = g5) w4 (w7.setCell ⟨g5, 2, none⟩ (.slice (some ⟨w6.heap.size, 0, none⟩) it.length ic)) := by
        refine Fr.setCell ?_ (fun _ => .inr rfl) _
        exact ((hF5.mono (fun _ _ t => t.elim)).trans k2 (fun _ _ t => .inl t)).trans hF7 (fun _ _ t => t.elim)
      have hFw : Fr (fun _ => False) w (w7.setCell ⟨g5, 2, none⟩ (.slice (some ⟨w6.heap.size, 0, none⟩) it.length ic)) := hF4.trans h56 (fun i hi t => by omega)
      have hqp : q ≠ p := HQP
      have hb7 : Bx w7 g5 #[.int .i64 2, .int .i64 (s : Int), .slice none 0 0] 123 := (hb5.frame k2 (by show ¬ g5 = p; omega)).keep hF7
      refine hide ⟨hFw, hq4.frame h56 (by show ¬ (q = p ∨ q = g5); omega), hb7.setCell 2 _, ?_, (unhide HH).2.2.2.2.2.later hFw, hql, fun b off _ e => ?_⟩
      · have := (hrow.bat (by have := (unhide HU).2.2.1; omega)).2
        refine this.stay (fun b off e h0 hlt => ?_)
        injection e with e
        injection e with e1 e2
        subst e1
        exact Below.heap_setCell _ _ _ _ (by show w6.heap.size ≠ g5; have := hb5.lt; omega)
      · injection e with e
        injection e with e1 e2
        omega
    clear H7 hcv c5 f5
    generalize w7.setCell ⟨g5, 2, none⟩ (.slice (some ⟨w6.heap.size, 0, none⟩) it.length ic) = W at *
    obtain ⟨io, hio⟩ : ∃ io, io = some (⟨w6.heap.size, 0, none⟩ : Addr) := ⟨_, rfl⟩
    rw [← hio] at HZ ⊢
    clear hio HA
    have HNE : ¬ g5 = q := by have := unhide HG5; omega
    have hRec : Hid (∀ u, Fr (fun _ => False) W u → Calls Tryz.prog 105 #[.agg #[.int .i64 2, .int .i64 (s : Int), .slice io it.length ic]] u fun e w' => ∃ ro rc g', e = .returned (.slice ro (qraw k s it).length rc) ∧ Hid (BAt w' ro rc (qraw k s it)) ∧ Fr (fun _ => False) W w' ∧ Hid (W.heap.size ≤ g')) := by
      obtain ⟨hk, hs, hit, hu⟩ := unhide HU
      obtain ⟨hF, hq, hg, hI, hBs, hql, hn⟩ := unhide HZ
      refine hide (fun u hu => ?_)
      have h := qrecord_any u k s hk hs io ic it (hI.later hu) (by omega)
      rw [show (k : Int) = 2 by have := unhide HK; omega] at h
      refine h.mono ?_
      rintro e w' ⟨v, g', rfl, h1, h2, h3⟩
      obtain ⟨ro, rc, rfl, hj⟩ := h1.shape
      exact ⟨ro, rc, g', rfl, hide (h1.bat (by have := raw_len k s it (by omega); omega)).2, hu.trans h2 (fun _ _ t => t), hide (Nat.le_trans hu.size h3)⟩
    have hEq : Hid (∀ w' ro rc, Fr (fun _ => False) W w' → BAt w' ro rc (qraw k s it) → Calls Tryz.prog 95 #[.slice ao bs.length cap, .slice ro (qraw k s it).length rc] w' fun e w'' => e = .returned (.bool (rdc bs).isSome) ∧ w'' = w') := by
      obtain ⟨hk, hs, hit, hu⟩ := unhide HU
      obtain ⟨hF, hq, hg, hI, hBs, hql, hn⟩ := unhide HZ
      refine hide (fun w' ro rc hf hr => ?_)
      have h := equal_any w' ao cap bs (hBs.later hf) ro rc _ hr
      rw [(rdc_isSome bs k s it hk hs hit (fun h => absurd (unhide HK) h) hu).1] at h
      exact h
    have hS : Hid (∀ w', Fr (fun k => k = q) W w' → w'.cell? ⟨g5, 0, none⟩ = some (.int .i64 2) ∧ w'.cell? ⟨g5, 1, none⟩ = some (.int .i64 (s : Int)) ∧ w'.cell? ⟨g5, 2, none⟩ = some (.slice io it.length ic)) := by
      obtain ⟨hF, hq, hg, hI, hBs, hql, hn⟩ := unhide HZ
      exact hide (fun w' hf => ⟨(hg.frame hf HNE).cell 0, (hg.frame hf HNE).cell 1, (hg.frame hf HNE).cell 2⟩)
    have hq0 : ∀ w', Fr (fun _ => False) W w' → w'.cell? ⟨q, 0, none⟩ = some (.int .i64 0) ∧ w'.cell? ⟨q, 1, none⟩ = some (.int .i64 0) ∧ w'.cell? ⟨q, 2, none⟩ = some (.slice none 0 0) ∧ ∀ i, w'.frozen? ⟨q, i, none⟩ = false := by
      obtain ⟨hF, hq, hg, hI, hBs, hql, hn⟩ := unhide HZ
      exact fun w' hf => ⟨(hq.keep hf).cell 0, (hq.keep hf).cell 1, (hq.keep hf).cell 2, (hq.keep hf).frozen⟩
    have HQ0 := hide hq0
    clear hq0
    obtain ⟨rs, hrs⟩ : ∃ b, b = (rdc bs).isSome := ⟨_, rfl⟩
    rw [← hrs] at hEq
    have HRS := hide hrs
    clear hrs
    go_region_held3 (fun w' => w'.cell? ⟨g5, 0, none⟩ = some (.int .i64 2) ∧ w'.cell? ⟨g5, 1, none⟩ = some (.int .i64 (s : Int)) ∧ w'.cell? ⟨g5, 2, none⟩ = some (.slice io it.length ic)) (first | exact unhide hS _ (Fr.refl _ _) | exact unhide hS _ ((Fr.refl _ _).drew) | exact unhide hS _ ((unhide hF8).mono (fun _ _ t => t.elim)) | exact unhide hS _ ((((Fr.mono (T := fun k => k = q) (unhide hF8) (fun _ _ t => t.elim)).setCell (fun _ => rfl) _).setCell (fun _ => rfl) _).setCell (fun _ => rfl) _)) (first | (go_at_call 105; refine (unhide hRec _ ((Fr.refl _ _).drew)).mono ?_; rintro e w8 ⟨ro, rc, g8, rfl, hb8, hF8', hg8⟩; have hF8 := hide hF8'; clear hF8' hg8) | (go_at_call 95; refine (unhide hEq w8 ro rc (unhide hF8) (unhide hb8)).mono ?_; rintro e w9 ⟨rfl, rfl⟩; have y0 := (unhide HQ0 w9 (unhide hF8)).1; have y1 := (unhide HQ0 w9 (unhide hF8)).2.1; have y2 := (unhide HQ0 w9 (unhide hF8)).2.2.1; have z0 := (unhide HQ0 w9 (unhide hF8)).2.2.2 0; have z1 := (unhide HQ0 w9 (unhide hF8)).2.2.2 1; have z2 := (unhide HQ0 w9 (unhide hF8)).2.2.2 2))
    have hfin : Bx (((w9.setCell ⟨q, 0, none⟩ (.int .i64 2)).setCell ⟨q, 1, none⟩ (.int .i64 (s : Int))).setCell ⟨q, 2, none⟩ (.slice io it.length ic)) q #[.int .i64 2, .int .i64 (s : Int), .slice io it.length ic] 123 := (((((unhide HZ).2.1.keep (unhide hF8)).setCell 0 _).setCell 1 _).setCell 2 _)
    have HFF : Hid (Fr (fun k => k = q) W (((w9.setCell ⟨q, 0, none⟩ (.int .i64 2)).setCell ⟨q, 1, none⟩ (.int .i64 (s : Int))).setCell ⟨q, 2, none⟩ (.slice io it.length ic))) := hide ((((Fr.mono (T := fun k => k = q) (unhide hF8) (fun _ _ t => t.elim)).setCell (fun _ => rfl) _).setCell (fun _ => rfl) _).setCell (fun _ => rfl) _)
    generalize ((w9.setCell ⟨q, 0, none⟩ (.int .i64 2)).setCell ⟨q, 1, none⟩ (.int .i64 (s : Int))).setCell ⟨q, 2, none⟩ (.slice io it.length ic) = V at *
    have x0 : V.cell? ⟨q, 0, none⟩ = some (.int .i64 2) := hfin.cell 0
    have x1 : V.cell? ⟨q, 1, none⟩ = some (.int .i64 (s : Int)) := hfin.cell 1
    have x2 : V.cell? ⟨q, 2, none⟩ = some (.slice io it.length ic) := hfin.cell 2
    clear hfin
    go_wp2
    refine bodyPost_ret (v := .tuple #[.agg #[.int .i64 2, .int .i64 (s : Int), .slice io it.length ic], .bool rs]) ?_ rfl ?_
    · simp [results, Tryz.results84, go_sem, x0, x1, x2]
    · obtain ⟨hk, hs, hit, hu⟩ := unhide HU
      obtain ⟨hF, hq, hg, hI, hBs, hql, hn⟩ := unhide HZ
      have hk2 := unhide HK
      refine ⟨k, s, it, io, ic, by rw [unhide HRS, hk2]; rfl, (rdc_isSome bs k s it hk hs hit (fun h => absurd hk2 h) hu).2, hI.stay (fun b off e h0 hlt => (unhide HFF).block b hlt (fun t => ?_)), hn, hF.trans (unhide HFF) (fun i hi t => by omega)⟩
      have h1 := hn b off h0 e
      obtain ⟨b', off', e', hc⟩ := hI.2.1 h0
      rw [e'] at e
      injection e with e
      injection e with e1 e2
      have h2 := hc 0 h0
      rw [e1, t, hq.cell] at h2
      have : off' + 0 < 3 := by
        rcases Nat.lt_or_ge (off' + 0) 3 with h | h
        · exact h
        · rw [Array.getElem?_eq_none (by simpa using h)] at h2; cases h2
      rcases (by omega : off' = 0 ∨ off' = 1 ∨ off' = 2) with rfl | rfl | rfl <;> simp at h2
  · have hk2I : ¬ ((k : Int) = 2) := by omega
    have HK := hide hk2
    clear hk2
    go_wp2_with fail
    obtain ⟨g5, hg5⟩ : ∃ g5, g5 = w4.heap.size := ⟨_, rfl⟩
    have HNE : ¬ g5 = q := by have := (unhide HQ).2.1.lt; omega
    have HZ : Hid (Fr (fun _ => False) w (w4.alloc (.cells #[.int .i64 (k : Int), .int .i64 (s : Int), .slice none 0 0] 123)) ∧ Bx (w4.alloc (.cells #[.int .i64 (k : Int), .int .i64 (s : Int), .slice none 0 0] 123)) q #[.int .i64 0, .int .i64 0, .slice none 0 0] 123 ∧ Bx (w4.alloc (.cells #[.int .i64 (k : Int), .int .i64 (s : Int), .slice none 0 0] 123)) g5 #[.int .i64 (k : Int), .int .i64 (s : Int), .slice none 0 0] 123 ∧ BAt (w4.alloc (.cells #[.int .i64 (k : Int), .int .i64 (s : Int), .slice none 0 0] 123)) none 0 [] ∧ BAt (w4.alloc (.cells #[.int .i64 (k : Int), .int .i64 (s : Int), .slice none 0 0] 123)) ao cap bs ∧ w.heap.size ≤ q ∧ True) := by
      obtain ⟨hF4, hq4, hql⟩ := unhide HQ
      rw [hg5]
      exact hide ⟨hF4.alloc _, hq4.alloc _, Bx.new _ _ _, ⟨fun _ => ⟨rfl, rfl⟩, fun h => absurd h (by simp), by simp⟩, (unhide HH).2.2.2.2.2.later (hF4.alloc _), hql, trivial⟩
    rw [← hg5]
    clear hg5
    generalize w4.alloc (.cells #[.int .i64 (k : Int), .int .i64 (s : Int), .slice none 0 0] 123) = W at *
    have hRec : Hid (∀ u, Fr (fun _ => False) W u → Calls Tryz.prog 105 #[.agg #[.int .i64 (k : Int), .int .i64 (s : Int), .slice none 0 0]] u fun e w' => ∃ ro rc g', e = .returned (.slice ro (qraw k s []).length rc) ∧ Hid (BAt w' ro rc (qraw k s [])) ∧ Fr (fun _ => False) W w' ∧ Hid (W.heap.size ≤ g')) := by
      obtain ⟨hk, hs, hit, hu⟩ := unhide HU
      obtain ⟨hF, hq, hg, hI, hBs, hql, hn⟩ := unhide HZ
      refine hide (fun u hu' => ?_)
      have h := qrecord_any u k s hk hs none 0 [] (hI.later hu') (by simp)
      skip
      refine h.mono ?_
      rintro e w' ⟨v, g', rfl, h1, h2, h3⟩
      obtain ⟨ro, rc, rfl, hj⟩ := h1.shape
      exact ⟨ro, rc, g', rfl, hide (h1.bat (by have := raw_len k s [] (by simp); omega)).2, hu'.trans h2 (fun _ _ t => t), hide (Nat.le_trans hu'.size h3)⟩
    have hEq : Hid (∀ w' ro rc, Fr (fun _ => False) W w' → BAt w' ro rc (qraw k s []) → Calls Tryz.prog 95 #[.slice ao bs.length cap, .slice ro (qraw k s []).length rc] w' fun e w'' => e = .returned (.bool (rdc bs).isSome) ∧ w'' = w') := by
      obtain ⟨hk, hs, hit, hu⟩ := unhide HU
      obtain ⟨hF, hq, hg, hI, hBs, hql, hn⟩ := unhide HZ
      refine hide (fun w' ro rc hf hr => ?_)
      have h := equal_any w' ao cap bs (hBs.later hf) ro rc _ hr
      rw [(rdc_isSome bs k s [] hk hs (by simp) (fun _ => rfl) (fun c h1 h2 => ⟨(hu c h1 h2).1, (hu c h1 h2).2.1, fun h => absurd h (unhide HK)⟩)).1] at h
      exact h
    have hS : Hid (∀ w', Fr (fun k => k = q) W w' → w'.cell? ⟨g5, 0, none⟩ = some (.int .i64 (k : Int)) ∧ w'.cell? ⟨g5, 1, none⟩ = some (.int .i64 (s : Int)) ∧ w'.cell? ⟨g5, 2, none⟩ = some (.slice none 0 0)) := by
      obtain ⟨hF, hq, hg, hI, hBs, hql, hn⟩ := unhide HZ
      exact hide (fun w' hf => ⟨(hg.frame hf HNE).cell 0, (hg.frame hf HNE).cell 1, (hg.frame hf HNE).cell 2⟩)
    have hq0 : ∀ w', Fr (fun _ => False) W w' → w'.cell? ⟨q, 0, none⟩ = some (.int .i64 0) ∧ w'.cell? ⟨q, 1, none⟩ = some (.int .i64 0) ∧ w'.cell? ⟨q, 2, none⟩ = some (.slice none 0 0) ∧ ∀ i, w'.frozen? ⟨q, i, none⟩ = false := by
      obtain ⟨hF, hq, hg, hI, hBs, hql, hn⟩ := unhide HZ
      exact fun w' hf => ⟨(hq.keep hf).cell 0, (hq.keep hf).cell 1, (hq.keep hf).cell 2, (hq.keep hf).frozen⟩
    have HQ0 := hide hq0
    clear hq0
    obtain ⟨rs, hrs⟩ : ∃ b, b = (rdc bs).isSome := ⟨_, rfl⟩
    rw [← hrs] at hEq
    have HRS := hide hrs
    clear hrs
    go_region_held3 (fun w' => w'.cell? ⟨g5, 0, none⟩ = some (.int .i64 (k : Int)) ∧ w'.cell? ⟨g5, 1, none⟩ = some (.int .i64 (s : Int)) ∧ w'.cell? ⟨g5, 2, none⟩ = some (.slice none 0 0)) (first | exact unhide hS _ (Fr.refl _ _) | exact unhide hS _ ((Fr.refl _ _).drew) | exact unhide hS _ ((unhide hF8).mono (fun _ _ t => t.elim)) | exact unhide hS _ ((((Fr.mono (T := fun k => k = q) (unhide hF8) (fun _ _ t => t.elim)).setCell (fun _ => rfl) _).setCell (fun _ => rfl) _).setCell (fun _ => rfl) _)) (first | (go_at_call 105; refine (unhide hRec _ ((Fr.refl _ _).drew)).mono ?_; rintro e w8 ⟨ro, rc, g8, rfl, hb8, hF8', hg8⟩; have hF8 := hide hF8'; clear hF8' hg8) | (go_at_call 95; refine (unhide hEq w8 ro rc (unhide hF8) (unhide hb8)).mono ?_; rintro e w9 ⟨rfl, rfl⟩; have y0 := (unhide HQ0 w9 (unhide hF8)).1; have y1 := (unhide HQ0 w9 (unhide hF8)).2.1; have y2 := (unhide HQ0 w9 (unhide hF8)).2.2.1; have z0 := (unhide HQ0 w9 (unhide hF8)).2.2.2 0; have z1 := (unhide HQ0 w9 (unhide hF8)).2.2.2 1; have z2 := (unhide HQ0 w9 (unhide hF8)).2.2.2 2))
    have hfin : Bx (((w9.setCell ⟨q, 0, none⟩ (.int .i64 (k : Int))).setCell ⟨q, 1, none⟩ (.int .i64 (s : Int))).setCell ⟨q, 2, none⟩ (.slice none 0 0)) q #[.int .i64 (k : Int), .int .i64 (s : Int), .slice none 0 0] 123 := (((((unhide HZ).2.1.keep (unhide hF8)).setCell 0 _).setCell 1 _).setCell 2 _)
    have HFF : Hid (Fr (fun k => k = q) W (((w9.setCell ⟨q, 0, none⟩ (.int .i64 (k : Int))).setCell ⟨q, 1, none⟩ (.int .i64 (s : Int))).setCell ⟨q, 2, none⟩ (.slice none 0 0))) := hide ((((Fr.mono (T := fun k => k = q) (unhide hF8) (fun _ _ t => t.elim)).setCell (fun _ => rfl) _).setCell (fun _ => rfl) _).setCell (fun _ => rfl) _)
    generalize ((w9.setCell ⟨q, 0, none⟩ (.int .i64 (k : Int))).setCell ⟨q, 1, none⟩ (.int .i64 (s : Int))).setCell ⟨q, 2, none⟩ (.slice none 0 0) = V at *
    have x0 : V.cell? ⟨q, 0, none⟩ = some (.int .i64 (k : Int)) := hfin.cell 0
    have x1 : V.cell? ⟨q, 1, none⟩ = some (.int .i64 (s : Int)) := hfin.cell 1
    have x2 : V.cell? ⟨q, 2, none⟩ = some (.slice none 0 0) := hfin.cell 2
    clear hfin
    go_wp2
    refine bodyPost_ret (v := .tuple #[.agg #[.int .i64 (k : Int), .int .i64 (s : Int), .slice none 0 0], .bool rs]) ?_ rfl ?_
    · simp [results, Tryz.results84, go_sem, x0, x1, x2]
    · obtain ⟨hk, hs, hit, hu⟩ := unhide HU
      obtain ⟨hF, hq, hg, hI, hBs, hql, hn⟩ := unhide HZ
      refine ⟨k, s, [], none, 0, by rw [unhide HRS]; rfl, (rdc_isSome bs k s [] hk hs (by simp) (fun _ => rfl) (fun c h1 h2 => ⟨(hu c h1 h2).1, (hu c h1 h2).2.1, fun h => absurd h (unhide HK)⟩)).2, ⟨hI.1, fun h => absurd h (by simp), by simp⟩, fun b off h => absurd h (by simp), hF.trans (unhide HFF) (fun i hi t => by omega)⟩

end Go.Proofs.YtjkghgcdkfkekaaGreatDoor

/- A row of items: a slice somewhere in its block ('IRow'), what append, a cut and clear make of it; a row of byte rows ('Its'). -/
namespace Go.Proofs.YtjkghgcdkfkekaaGreatDoor
open Go.RowKit

/-- A slice whose elements (of one cell each) are vs, in block g from the cell off on. -/
structure IRow (w : World) (ao : Option Addr) (cap g off : Nat) (vs : List Value) : Prop where
  le : vs.length ≤ cap
  max : cap ≤ maxLen
  ad : 0 < cap → ao = some ⟨g, off, none⟩
  room : ∀ j, j < cap → (w.cell? ⟨g, off + j, none⟩).isSome = true ∧ w.frozen? ⟨g, off + j, none⟩ = false
  cells : ∀ j (hj : j < vs.length), w.cell? ⟨g, off + j, none⟩ = some vs[j]
  one : ∀ u ∈ vs, u.oneCell' = true

theorem IRow.nil (w : World) (g off : Nat) : IRow w none 0 g off [] :=
  ⟨Nat.le_refl _, Nat.zero_le _, fun h => absurd h (by omega), fun j hj => absurd hj (by omega), fun j hj => absurd hj (by simp), fun u hu => by cases hu⟩

theorem IRow.stay {w w' : World} {ao : Option Addr} {cap g off : Nat} {vs : List Value} (h : IRow w ao cap g off vs) (hb : 0 < cap → w'.heap[g]? = w.heap[g]?) : IRow w' ao cap g off vs := by
  refine ⟨h.le, h.max, h.ad, fun j hj => ?_, fun j hj => ?_, h.one⟩
  · have e := hb (by omega)
    rw [World.cell?_of_block (a := ⟨g, off + j, none⟩) e, World.frozen?_of_block (a := ⟨g, off + j, none⟩) e]
    exact h.room j hj
  · have := h.le
    rw [World.cell?_of_block (a := ⟨g, off + j, none⟩) (hb (by omega))]
    exact h.cells j hj

theorem IRow.lt {w : World} {ao : Option Addr} {cap g off : Nat} {vs : List Value} (h : IRow w ao cap g off vs) (hc : 0 < cap) : g < w.heap.size := by
  obtain ⟨u, hu⟩ := Option.isSome_iff_exists.1 (h.room 0 hc).1
  exact World.block_lt_of_cell? _ _ hu

theorem IRow.drop {w : World} {ao : Option Addr} {cap g off : Nat} {vs : List Value} (h : IRow w ao cap g off vs) (k : Nat) (hk : k ≤ vs.length) (ao' : Option Addr) (had : 0 < cap - k → ao' = some ⟨g, off + k, none⟩) : IRow w ao' (cap - k) g (off + k) (vs.drop k) := by
  have h1 := h.le
  have h2 := h.max
  refine ⟨by simp; omega, by omega, had, fun j hj => ?_, fun j hj => ?_, fun u hu => h.one u (List.mem_of_mem_drop hu)⟩
  · rw [Nat.add_assoc]; exact h.room (k + j) (by omega)
  · simp at hj
    rw [Nat.add_assoc, h.cells (k + j) (by omega), List.getElem_drop]

section
variable {P : Program}

theorem append_irow (t tx ty e : TypeId) (i : TypeInfo) (z : Value) (ht : P.underlying t = some (.slice e)) (hi : P.info? e = some i) (hz : i.zero = some z) (hz1 : z.cells = #[z]) (hs1 : i.size = 1)
    {w : World} {ao : Option Addr} {cap g off n : Nat} {vs : List Value} (h : IRow w ao cap g off vs) (hn : vs.length = n) (x : Value) (news : List Value) (m : Nat) (hm : news.length = m) (hs : Src P 1 tx x m news w) (hfit : (n + m) * i.bytes ≤ 140737488355328) (hf2 : n + m ≤ 140737488355328) :
    ∃ ao' cap' w' g' off', (Builtin.append_ #[t, tx] ty #[.slice ao n cap, x]).run P w = .ok (.slice ao' (n + m) cap') w' ∧ IRow w' ao' cap' g' off' (vs ++ news) ∧ IRow w' ao cap g off vs ∧ Fr (fun k => k = g ∧ 0 < cap) w w' ∧ ((g' = g ∧ cap' = cap) ∨ w.heap.size ≤ g') := by
  subst hn
  subst hm
  have h1 := h.le
  have hs' : Src P i.size tx x news.length news w := by rw [hs1]; exact hs
  have hone : ∀ u ∈ vs ++ news, u.oneCell' = true := fun u hu => (List.mem_append.1 hu).elim (h.one u) (hs.one u)
  by_cases hr : vs.length + news.length ≤ cap
  · by_cases hc : cap = 0
    · have hm : news = [] := List.eq_nil_of_length_eq_zero (by omega)
      subst hm
      have hrun := run_append_nothing (P := P) w t tx ty e i ht hi ao vs.length cap h1 x hs'
      rw [List.append_nil]
      exact ⟨_, _, _, g, off, hrun, h, h, Fr.refl _ _, .inl ⟨rfl, rfl⟩⟩
    · obtain rfl := h.ad (by omega)
      have hrun := run_append_room_src (P := P) w t tx ty e i ht hi g off vs.length cap x news.length news hs' hr
        (fun j hj => by rw [hs1, Nat.mul_one, Nat.add_assoc]; exact (h.room _ (by omega)).1)
        (fun j hj => by rw [hs1, Nat.mul_one, Nat.add_assoc]; exact (h.room _ (by omega)).2)
      rw [hs1, Nat.mul_one] at hrun
      have hin := World.cell?_setCells_in g news (off + vs.length) w (fun j hj => by rw [Nat.add_assoc]; exact (h.room _ (by omega)).1)
      have hout : ∀ j, (j < vs.length ∨ vs.length + news.length ≤ j) → (w.setCells g (off + vs.length) news).cell? ⟨g, off + j, none⟩ = w.cell? ⟨g, off + j, none⟩ := fun j hj => World.cell?_setCells_out g _ _ _ _ (fun _ _ => by show off + j < off + vs.length ∨ off + vs.length + news.length ≤ off + j; omega)
      have hroom : ∀ j, j < cap → ((w.setCells g (off + vs.length) news).cell? ⟨g, off + j, none⟩).isSome = true ∧ (w.setCells g (off + vs.length) news).frozen? ⟨g, off + j, none⟩ = false := fun j hj => by
        refine ⟨?_, by rw [World.frozen?_setCells]; exact (h.room j hj).2⟩
        by_cases hj2 : j < vs.length ∨ vs.length + news.length ≤ j
        · rw [hout j hj2]; exact (h.room j hj).1
        · have := hin (j - vs.length) (by omega)
          rw [show off + vs.length + (j - vs.length) = off + j by omega] at this
          rw [this]; rfl
      refine ⟨_, _, _, g, off, hrun, ⟨by rw [List.length_append]; exact hr, h.max, h.ad, hroom, fun j hj => ?_, hone⟩, ⟨h1, h.max, h.ad, hroom, fun j hj => by rw [hout j (.inl hj)]; exact h.cells j hj, h.one⟩, Fr.setCells (S := fun k => k = g ∧ 0 < cap) g (fun _ => ⟨rfl, by omega⟩) _ _ _ (Fr.refl _ _), .inl ⟨rfl, rfl⟩⟩
      rw [List.length_append] at hj
      by_cases hj2 : j < vs.length
      · rw [hout j (.inl hj2), h.cells j hj2, List.getElem_append_left hj2]
      · have := hin (j - vs.length) (by omega)
        rw [show off + vs.length + (j - vs.length) = off + j by omega] at this
        rw [this, List.getElem_append_right (by omega)]
  · have hold : (Builtin.firstCells i.size vs.length (.slice ao vs.length cap)).run P w.drew = .ok vs.toArray w.drew := by
      by_cases hc : 0 < cap
      · rw [h.ad hc]
        refine run_firstCells_some w.drew i.size vs.length ⟨g, off, none⟩ vs.length cap vs (by rw [hs1, Nat.mul_one]) (fun j u hj => ?_)
        have hjl : j < vs.length := (List.getElem?_eq_some_iff.1 hj).1
        rw [Addr.add_lit, ← hj, List.getElem?_eq_getElem hjl]
        exact h.cells j hjl
      · have hb : vs = [] := List.eq_nil_of_length_eq_zero (by omega)
        subst hb
        cases ao with
        | none => exact run_firstCells_none w.drew i.size 0 0 cap
        | some b => exact run_firstCells_some w.drew i.size 0 b 0 cap [] (by simp) (fun j u hj => by simp at hj)
    have hrun := run_append_grow_src (P := P) w t tx ty e i z ht hi hz ao vs.length cap vs hold x news.length news hs' (by omega) (by omega) (growslice_fits (by omega) hfit)
    have hge := grownCap_ge w (vs.length + news.length) cap e
    have hcm := grownCap_le_maxLen w (vs.length + news.length) cap e (by simp only [maxLen]; omega)
    generalize grownCap w (vs.length + news.length) cap e = C at hrun hge hcm
    have hF : Fr (fun _ => False) w (w.drew.alloc (.cells ((vs ++ news).toArray ++ Builtin.zeroCells z.cells (C - (vs.length + news.length))) e)) := (Fr.refl _ w).drew.alloc _
    refine ⟨_, _, _, w.heap.size, 0, hrun, ⟨by rw [List.length_append]; exact hge, hcm, fun _ => rfl, fun j hj => ⟨?_, ?_⟩, fun j hj => ?_, hone⟩, h.stay (fun hc => hF.block g (h.lt hc) (fun t => t)), hF.mono (fun _ _ t => t.elim), .inr (Nat.le_refl _)⟩
    · have e1 := World.cell?_alloc_new w.drew ((vs ++ news).toArray ++ Builtin.zeroCells z.cells (C - (vs.length + news.length))) e (0 + j)
      have hsz : 0 + j < ((vs ++ news).toArray ++ Builtin.zeroCells z.cells (C - (vs.length + news.length))).size := by
        rw [hz1]
        simp [Builtin.zeroCells]; omega
      rw [show w.heap.size = w.drew.heap.size from rfl, e1, Array.getElem?_eq_getElem hsz]; rfl
    · exact World.frozen?_alloc_new w.drew _ _ _
    · have e1 := World.cell?_alloc_new w.drew ((vs ++ news).toArray ++ Builtin.zeroCells z.cells (C - (vs.length + news.length))) e (0 + j)
      rw [show w.heap.size = w.drew.heap.size from rfl, e1, Nat.zero_add, Array.getElem?_append_left (by simpa using hj), List.getElem?_toArray, List.getElem?_eq_getElem hj]

end

/-- A value that is a row of bytes, in blocks of which E holds. -/
def IEl (E : Nat → Prop) (w : World) (v : Value) (b : Bs) : Prop := ∃ ao cap, v = .slice ao b.length cap ∧ BAt w ao cap b ∧ ∀ k off, 0 < b.length → ao = some ⟨k, off, none⟩ → E k

theorem IEl.frame {E S : Nat → Prop} {w w' : World} {v : Value} {b : Bs} (h : IEl E w v b) (hF : Fr S w w') (hS : ∀ k, E k → ¬ S k) : IEl E w' v b := by
  obtain ⟨ao, cap, e, hb, hE⟩ := h
  exact ⟨ao, cap, e, hb.stay (fun k off e h0 hlt => hF.block k hlt (hS k (hE k off h0 e))), hE⟩

theorem IEl.mono {E E' : Nat → Prop} {w : World} {v : Value} {b : Bs} (h : IEl E w v b) (hE : ∀ k, k < w.heap.size → E k → E' k) : IEl E' w v b := by
  obtain ⟨ao, cap, e, hb, hk⟩ := h
  refine ⟨ao, cap, e, hb, fun k off h0 ea => hE k ?_ (hk k off h0 ea)⟩
  obtain ⟨k', off', e', hc⟩ := hb.2.1 h0
  rw [e'] at ea
  injection ea with ea
  injection ea with q1 q2
  rw [← q1]
  exact World.block_lt_of_cell? _ _ (hc 0 h0)

/-- A row of items. -/
structure Its (E : Nat → Prop) (w : World) (ao : Option Addr) (cap g off : Nat) (l : List Bs) : Prop where
  ex : ∃ vs, IRow w ao cap g off vs ∧ vs.length = l.length ∧ ∀ i (h1 : i < vs.length) (h2 : i < l.length), IEl E w vs[i] l[i]

theorem Its.nil (E : Nat → Prop) (w : World) (g off : Nat) : Its E w none 0 g off [] := ⟨[], IRow.nil _ _ _, rfl, fun i h => absurd h (by simp)⟩

theorem Its.frame {E S : Nat → Prop} {w w' : World} {ao : Option Addr} {cap g off : Nat} {l : List Bs} (h : Its E w ao cap g off l) (hF : Fr S w w') (hg : 0 < cap → ¬ S g) (hS : ∀ k, E k → ¬ S k) : Its E w' ao cap g off l := by
  obtain ⟨vs, h1, h2, h3⟩ := h.ex
  exact ⟨vs, h1.stay (fun hc => hF.block g (h1.lt hc) (hg hc)), h2, fun i a b => (h3 i a b).frame hF hS⟩

theorem Its.keep {E : Nat → Prop} {w w' : World} {ao : Option Addr} {cap g off : Nat} {l : List Bs} (h : Its E w ao cap g off l) (hF : Fr (fun _ => False) w w') : Its E w' ao cap g off l := h.frame hF (fun _ t => t) (fun _ _ t => t)

theorem Its.mono {E E' : Nat → Prop} {w : World} {ao : Option Addr} {cap g off : Nat} {l : List Bs} (h : Its E w ao cap g off l) (hE : ∀ k, k < w.heap.size → E k → E' k) : Its E' w ao cap g off l := by
  obtain ⟨vs, h1, h2, h3⟩ := h.ex
  exact ⟨vs, h1, h2, fun i a b => (h3 i a b).mono hE⟩

theorem Its.lt {E : Nat → Prop} {w : World} {ao : Option Addr} {cap g off : Nat} {l : List Bs} (h : Its E w ao cap g off l) (hc : 0 < cap) : g < w.heap.size := by
  obtain ⟨vs, h1, h2, h3⟩ := h.ex
  exact h1.lt hc

theorem Its.le {E : Nat → Prop} {w : World} {ao : Option Addr} {cap g off : Nat} {l : List Bs} (h : Its E w ao cap g off l) : l.length ≤ cap ∧ cap ≤ maxLen := by
  obtain ⟨vs, h1, h2, h3⟩ := h.ex
  exact ⟨by rw [← h2]; exact h1.le, h1.max⟩

theorem Its.recs {E Q : Nat → Prop} {w : World} {ao : Option Addr} {cap g off : Nat} {l : List Bs} (h : Its E w ao cap g off l) (hE : ∀ k, E k → Q k) (hg : 0 < cap → Q g) (hl : l.length ≤ 140737488355328) : RecsP Q w ao cap l := by
  have hle := h.le
  obtain ⟨vs, h1, h2, h3⟩ := h.ex
  refine ⟨fun h0 => ⟨g, off, h1.ad (by omega), hg (by omega), fun i hi => ?_⟩, hl⟩
  obtain ⟨ao', cap', e, hb, hk⟩ := h3 i (by omega) hi
  exact ⟨ao', cap', by rw [h1.cells i (by omega), e], hb, fun b' off' h0 ea => hE _ (hk b' off' h0 ea)⟩

theorem Its.drop {E : Nat → Prop} {w : World} {ao : Option Addr} {cap g off : Nat} {l : List Bs} (h : Its E w ao cap g off l) (k : Nat) (hk : k ≤ l.length) (ao' : Option Addr) (had : 0 < cap - k → ao' = some ⟨g, off + k, none⟩) : Its E w ao' (cap - k) g (off + k) (l.drop k) := by
  obtain ⟨vs, h1, h2, h3⟩ := h.ex
  refine ⟨vs.drop k, h1.drop k (by omega) ao' had, by simp [h2], fun i a b => ?_⟩
  simp at a b
  rw [List.getElem_drop, List.getElem_drop]
  exact h3 (k + i) (by omega) (by omega)

theorem Its.first {E : Nat → Prop} {w : World} {ao : Option Addr} {cap g off : Nat} {l : List Bs} (h : Its E w ao cap g off l) (k : Nat) : Its E w ao cap g off (l.take k) := by
  obtain ⟨vs, h1, h2, h3⟩ := h.ex
  refine ⟨vs.take k, ⟨by have := h1.le; simp; omega, h1.max, h1.ad, h1.room, fun j hj => ?_, fun u hu => h1.one u (List.mem_of_mem_take hu)⟩, by simp [h2], fun i a b => ?_⟩
  · simp at hj
    rw [h1.cells j (by omega), List.getElem_take]
  · simp at a b
    rw [List.getElem_take, List.getElem_take]
    exact h3 i (by omega) (by omega)

/-- append of one item to a row of items: a run. -/
theorem append_its {E : Nat → Prop} {w : World} {ao : Option Addr} {cap g off : Nat} {l : List Bs} (h : Its E w ao cap g off l) (hE : 0 < cap → ¬ E g) (x : Value) (v : Value) (b : Bs) (hb : IEl E w v b) (hs : Src Tryz.prog 1 23 x 1 [v] w) (hl : l.length ≤ 1099511627776) (ty : TypeId) :
    ∃ ao' cap' w' g' off', (Builtin.append_ #[23, 23] ty #[.slice ao l.length cap, x]).run Tryz.prog w = .ok (.slice ao' (l.length + 1) cap') w' ∧ Its E w' ao' cap' g' off' (l ++ [b]) ∧ Its E w' ao cap g off l ∧ Fr (fun k => k = g ∧ 0 < cap) w w' ∧ ((g' = g ∧ cap' = cap) ∨ w.heap.size ≤ g') := by
  obtain ⟨i0, hi, hzz⟩ := Option.map_eq_some_iff.1 infoS
  simp only [Prod.mk.injEq] at hzz
  obtain ⟨hz0, hz1, hz2⟩ := hzz
  obtain ⟨vs, h1, h2, h3⟩ := h.ex
  obtain ⟨ao', cap', w', g', off', hrun, r1, r2, r3, r4⟩ := append_irow (P := Tryz.prog) 23 23 ty 28 i0 (.slice none 0 0) Tryz.underlying23 hi hz0 rfl hz1 h1 h2 x [v] 1 rfl hs (by rw [hz2]; omega) (by omega)
  have hS : ∀ k, E k → ¬ (k = g ∧ 0 < cap) := fun k hk t => hE t.2 (by rw [← t.1]; exact hk)
  refine ⟨ao', cap', w', g', off', hrun, ⟨vs ++ [v], r1, by simp [h2], fun i a c => ?_⟩, ⟨vs, r2, h2, fun i a c => (h3 i a c).frame r3 hS⟩, r3, r4⟩
  by_cases hi' : i < vs.length
  · rw [List.getElem_append_left hi', List.getElem_append_left (by omega)]
    exact (h3 i hi' (by omega)).frame r3 hS
  · have hil : i = vs.length := by simp at a; omega
    have e1 : (vs ++ [v])[i] = v := by rw [List.getElem_append_right (by omega)]; simp
    have e2 : (l ++ [b])[i] = b := by rw [List.getElem_append_right (by omega)]; simp
    rw [e1, e2]
    exact hb.frame r3 hS

theorem Tryz.zeroS (w : World) : (zeroValue 28).run Tryz.prog w = .ok (.slice none 0 0) w := by kernel_rfl

theorem run_clear_none (w : World) (t e ty : TypeId) (ht : Tryz.prog.underlying t = some (.slice e)) (a : Option Addr) (c : Nat) : (Builtin.clear_ #[t] ty #[.slice a 0 c]).run Tryz.prog w = .ok (.tuple #[]) w := by
  cases a <;> simp [Builtin.clear_, run_underlying ht]

/-- The first items are cleared. -/
theorem clear_its {E : Nat → Prop} {w : World} {ao : Option Addr} {cap g off : Nat} {l : List Bs} (h : Its E w ao cap g off l) (hE : 0 < cap → ¬ E g) (k : Nat) (hk : k ≤ l.length) :
    ∃ w', (∀ ty, (Builtin.clear_ #[23] ty #[.slice ao k cap]).run Tryz.prog w = .ok (.tuple #[]) w') ∧ Fr (fun q => q = g ∧ 0 < cap ∧ 0 < k) w w' ∧ ∀ ao', (0 < cap - k → ao' = some ⟨g, off + k, none⟩) → Its E w' ao' (cap - k) g (off + k) (l.drop k) := by
  rcases Nat.eq_zero_or_pos k with rfl | h0
  · refine ⟨w, fun ty => run_clear_none w _ _ ty Tryz.underlying23 ao cap, Fr.refl _ _, fun ao' had => h.drop 0 (by omega) ao' had⟩
  · have hle := h.le
    obtain ⟨vs, h1, h2, h3⟩ := h.ex
    have e := h1.ad (by omega)
    have hrun := fun ty => Go.Lib.run_clear_slice (P := Tryz.prog) w 23 28 ty (.slice none 0 0) Tryz.underlying23 Tryz.zeroS rfl rfl g off k cap h0 (fun j hj => (h1.room j (by omega)).1) (fun j hj => (h1.room j (by omega)).2)
    have hF : Fr (fun q => q = g ∧ 0 < cap ∧ 0 < k) w (w.setCells g off (List.replicate k (.slice none 0 0))) := Fr.setCells (S := fun q => q = g ∧ 0 < cap ∧ 0 < k) g (fun _ => ⟨rfl, by omega, h0⟩) _ _ _ (Fr.refl _ _)
    refine ⟨_, by rw [e]; exact hrun, hF, fun ao' had => ?_⟩
    have hout : ∀ j, k ≤ j → (w.setCells g off (List.replicate k (.slice none 0 0))).cell? ⟨g, off + j, none⟩ = w.cell? ⟨g, off + j, none⟩ := fun j hj => World.cell?_setCells_out g _ _ _ _ (fun _ _ => by simp; omega)
    obtain ⟨us, d1, d2, d3⟩ := (h.drop k hk ao' had).ex
    refine ⟨us, ⟨d1.le, d1.max, d1.ad, fun j hj => ⟨?_, by rw [World.frozen?_setCells]; exact (d1.room j hj).2⟩, fun j hj => ?_, d1.one⟩, d2, fun i a c => (d3 i a c).frame hF (fun q hq t => hE t.2.1 (by rw [← t.1]; exact hq))⟩
    · rw [Nat.add_assoc, hout _ (by omega), ← Nat.add_assoc]; exact (d1.room j hj).1
    · rw [Nat.add_assoc, hout _ (by omega), ← Nat.add_assoc]; exact d1.cells j hj

end Go.Proofs.YtjkghgcdkfkekaaGreatDoor

/- Contracts: a row's last, behind, become, mayHave. -/
namespace Go.Proofs.YtjkghgcdkfkekaaGreatDoor
open Go.RowKit

/-- An append whose run is known, as one step of a region that draws its order. -/
theorem step_append_run {ops : Array Oper} {o : Oper} {a : Act} {w : World} {K : Act → World → Prop} {Q : Exit → Act → World → Prop} {E : Prop} (hgd : o.guard = none) (s x : Operand) (t tx : TypeId)
    (ho : o.op = .call { callee := .builtin .append, args := #[s, x], argTypes := #[t, tx] }) {sv xv v : Value} {w' : World} (hv : a.eval s = sv) (hx : a.eval x = xv) (hrun : (Builtin.append_ #[t, tx] o.type #[sv, xv]).run Tryz.prog w = .ok v w') (hK : K (a.put o.dst v) w') :
    if Region.wanted o (yielded ops a.tmps) = true then Oper.wp Tryz.prog o a w K Q else E := by
  have hw : Region.wanted o (yielded ops a.tmps) = true := by simp [Region.wanted, hgd]
  rw [if_pos hw]
  unfold Oper.wp
  simp [execOp, ho, resolve, invoke, builtin, hv, hx, hrun, Result.andThen]
  exact hK

set_option maxRecDepth 20000 in
theorem qlast_any (w : World) (a n : Nat) (io : Option Addr) (ic : Nat) (h : a + n < 9223372036854775808) :
    Calls Tryz.prog 54 #[.agg #[.int .i64 (a : Int), .slice io n ic]] w fun e w' => e = .returned (.int .i64 ((a + n : Nat) : Int)) ∧ Fr (fun _ => False) w w' := by
  have hI : (a : Int) + (n : Int) < 9223372036854775808 := by omega
  clear h
  go_enter Tryz.func54, Tryz.ntmps54
  go_wp2
  go_ret
  exact ⟨by go_num, (Fr.refl _ _).alloc _⟩

set_option maxHeartbeats 1000000 in
set_option maxRecDepth 20000 in
theorem behind_base (w : World) (a n : Nat) (io : Option Addr) (ic : Nat) (k s : Nat) (h2 : k ≠ 2) (h3 : k ≠ 3) (xo : Option Addr) (xn xc : Nat) :
    Calls Tryz.prog 75 #[.agg #[.int .i64 (a : Int), .slice io n ic], .agg #[.int .i64 (k : Int), .int .i64 (s : Int), .slice xo xn xc]] w fun e w' => e = .returned (.agg #[.int .i64 (s : Int), .slice none 0 0]) ∧ Fr (fun _ => False) w w' := by
  have k2 : ¬ (k : Int) = 2 := by omega
  have k3 : ¬ (k : Int) = 3 := by omega
  clear h2 h3
  go_enter Tryz.func75, Tryz.ntmps75
  go_wp2
  refine bodyPost_ret (v := .agg #[.int .i64 (s : Int), .slice none 0 0]) ?_ rfl ⟨rfl, (((Fr.refl _ _).alloc _).alloc _).alloc _⟩
  simp [results, Tryz.results75, go_sem]

set_option maxHeartbeats 1000000 in
set_option maxRecDepth 20000 in
theorem behind_ack (w : World) (E : Nat → Prop) (a s : Nat) (io : Option Addr) (cap g off : Nat) (l : List Bs) (hI : Its E w io cap g off l) (h1 : a ≤ s) (h2 : s - a ≤ l.length) (hs : s < 4294967296) (xo : Option Addr) (xn xc : Nat) :
    Calls Tryz.prog 75 #[.agg #[.int .i64 (a : Int), .slice io l.length cap], .agg #[.int .i64 3, .int .i64 (s : Int), .slice xo xn xc]] w fun e w' => ∃ io', e = .returned (.agg #[.int .i64 (s : Int), .slice io' (l.length - (s - a)) (cap - (s - a))]) ∧ (0 < cap - (s - a) → io' = some ⟨g, off + (s - a), none⟩) ∧ Fr (fun _ => False) w w' := by
  have hle := hI.le
  have had : 0 < cap → io = some ⟨g, off, none⟩ := by obtain ⟨vs, q1, q2, q3⟩ := hI.ex; exact q1.ad
  have HI := hide had
  obtain ⟨k, hk⟩ : ∃ k, k = s - a := ⟨_, rfl⟩
  have hkI : (s : Int) - (a : Int) = (k : Int) := by omega
  have hwr : IntKind.i64.wrap ((s : Int) - (a : Int)) = (k : Int) := by rw [hkI, IntKind.wrap_i64]; omega
  rw [← hk] at h2 ⊢
  have hkl : (k : Int) ≤ (l.length : Int) := by omega
  have HL := hide (And.intro hle (And.intro h1 (And.intro h2 (And.intro hs hk))))
  clear hI had hle h1 h2 hs hk hkI
  generalize hln : l.length = n at *
  have HN := hide hln
  clear hln
  obtain ⟨io', hio, had'⟩ : ∃ io', sliced io k n cap 1 = .slice io' (n - k) (cap - k) ∧ (0 < cap - k → io' = some ⟨g, off + k, none⟩) := by
    refine ⟨_, rfl, fun hc => ?_⟩
    rw [if_neg (by omega), unhide HI (by omega)]
    simp [Addr.add_lit]
  have hsl : ∀ u : World, (Instr.slice 23 (.slice io n cap) (some (.int .i64 (k : Int))) none none).run Tryz.prog u = .ok (.slice io' (n - k) (cap - k)) u := fun u => by
    rw [run_slice_l (P := Tryz.prog) (w := u) 23 io n cap Tryz.underlying23 .i64 (k : Int) (by omega) (by omega), ← hio]; rfl
  have HA := hide had'
  clear had' hio
  go_enter Tryz.func75, Tryz.ntmps75
  go_wp2
  have HS : Hid (∀ w', Fr (fun k => k = w.heap.size + 1 + 1) (((w.alloc (.cells #[.int .i64 (a : Int), .slice io n cap] 118)).alloc (.cells #[.int .i64 3, .int .i64 (s : Int), .slice xo xn xc] 123)).alloc (.cells #[.int .i64 0, .slice none 0 0] 118)) w' → w'.cell? ⟨w.heap.size + 1, 1, none⟩ = some (.int .i64 (s : Int)) ∧ w'.cell? ⟨w.heap.size, 1, none⟩ = some (.slice io n cap) ∧ w'.cell? ⟨w.heap.size, 0, none⟩ = some (.int .i64 (a : Int))) := by
    have b1 := ((Bx.new w #[.int .i64 (a : Int), .slice io n cap] 118).alloc (.cells #[.int .i64 3, .int .i64 (s : Int), .slice xo xn xc] 123)).alloc (.cells #[.int .i64 0, .slice none 0 0] 118)
    have b2 := (Bx.new (w.alloc (.cells #[.int .i64 (a : Int), .slice io n cap] 118)) #[.int .i64 3, .int .i64 (s : Int), .slice xo xn xc] 123).alloc (.cells #[.int .i64 0, .slice none 0 0] 118)
    simp only [heap_alloc] at b2
    exact hide (fun w' hf => ⟨(b2.frame hf (by omega)).cell 1, (b1.frame hf (by omega)).cell 1, (b1.frame hf (by omega)).cell 0⟩)
  have b3 := Bx.new ((w.alloc (.cells #[.int .i64 (a : Int), .slice io n cap] 118)).alloc (.cells #[.int .i64 3, .int .i64 (s : Int), .slice xo xn xc] 123)) #[.int .i64 0, .slice none 0 0] 118
  simp only [heap_alloc] at b3
  have hFw : Fr (fun _ => False) w (((w.alloc (.cells #[.int .i64 (a : Int), .slice io n cap] 118)).alloc (.cells #[.int .i64 3, .int .i64 (s : Int), .slice xo xn xc] 123)).alloc (.cells #[.int .i64 0, .slice none 0 0] 118)) := (((Fr.refl _ _).alloc _).alloc _).alloc _
  generalize ((w.alloc (.cells #[.int .i64 (a : Int), .slice io n cap] 118)).alloc (.cells #[.int .i64 3, .int .i64 (s : Int), .slice xo xn xc] 123)).alloc (.cells #[.int .i64 0, .slice none 0 0] 118) = W at *
  have y0 : W.cell? ⟨w.heap.size + 1 + 1, 0, none⟩ = some (.int .i64 0) := b3.cell 0
  have y1 : W.cell? ⟨w.heap.size + 1 + 1, 1, none⟩ = some (.slice none 0 0) := b3.cell 1
  have z0 := b3.frozen 0
  have z1 := b3.frozen 1
  have HB := hide (And.intro b3 hFw)
  clear b3 hFw
  go_region_held3 (fun w' => w'.cell? ⟨w.heap.size + 1, 1, none⟩ = some (.int .i64 (s : Int)) ∧ w'.cell? ⟨w.heap.size, 1, none⟩ = some (.slice io n cap) ∧ w'.cell? ⟨w.heap.size, 0, none⟩ = some (.int .i64 (a : Int))) (first | exact unhide HS _ (Fr.refl _ _) | exact unhide HS _ ((Fr.refl _ _).drew) | exact unhide HS _ ((((Fr.refl (fun k => k = w.heap.size + 1 + 1) _).drew).setCell (fun _ => rfl) _).setCell (fun _ => rfl) _)) (fail)
  have hfin : Bx ((W.setCell ⟨w.heap.size + 1 + 1, 0, none⟩ (.int .i64 (s : Int))).setCell ⟨w.heap.size + 1 + 1, 1, none⟩ (.slice io' (n - k) (cap - k))).drew (w.heap.size + 1 + 1) #[.int .i64 (s : Int), .slice io' (n - k) (cap - k)] 118 := (((unhide HB).1.setCell 0 _).setCell 1 _).drew
  have HF : Hid (Fr (fun _ => False) w ((W.setCell ⟨w.heap.size + 1 + 1, 0, none⟩ (.int .i64 (s : Int))).setCell ⟨w.heap.size + 1 + 1, 1, none⟩ (.slice io' (n - k) (cap - k))).drew) := hide ((((unhide HB).2.setCell (fun h => absurd h (by show ¬ w.heap.size + 1 + 1 < _; omega)) _).setCell (fun h => absurd h (by show ¬ w.heap.size + 1 + 1 < _; omega)) _).drew)
  generalize ((W.setCell ⟨w.heap.size + 1 + 1, 0, none⟩ (.int .i64 (s : Int))).setCell ⟨w.heap.size + 1 + 1, 1, none⟩ (.slice io' (n - k) (cap - k))).drew = V at *
  have x0 : V.cell? ⟨w.heap.size + 1 + 1, 0, none⟩ = some (.int .i64 (s : Int)) := hfin.cell 0
  have x1 : V.cell? ⟨w.heap.size + 1 + 1, 1, none⟩ = some (.slice io' (n - k) (cap - k)) := hfin.cell 1
  clear hfin y0 y1 z0 z1
  go_wp2
  refine bodyPost_ret (v := .agg #[.int .i64 (s : Int), .slice io' (n - k) (cap - k)]) ?_ rfl ⟨io', rfl, unhide HA, unhide HF⟩
  simp [results, Tryz.results75, go_sem, x0, x1]

set_option maxHeartbeats 1000000 in
set_option maxRecDepth 20000 in
theorem behind_put (w : World) (E : Nat → Prop) (a s : Nat) (io : Option Addr) (cap g off : Nat) (l : List Bs) (hI : Its E w io cap g off l) (hE : 0 < cap → ¬ E g) (hl : l.length ≤ 1099511627776) (xo : Option Addr) (xc : Nat) (x : Bs) (hx : IEl E w (.slice xo x.length xc) x) :
    Calls Tryz.prog 75 #[.agg #[.int .i64 (a : Int), .slice io l.length cap], .agg #[.int .i64 2, .int .i64 (s : Int), .slice xo x.length xc]] w fun e w' => ∃ io' cap' g' off', e = .returned (.agg #[.int .i64 (a : Int), .slice io' (l.length + 1) cap']) ∧ Its E w' io' cap' g' off' (l ++ [x]) ∧ Its E w' io cap g off l ∧ Fr (fun k => k = g ∧ 0 < cap) w w' ∧ ((g' = g ∧ cap' = cap) ∨ w.heap.size ≤ g') := by
  obtain ⟨n, hn⟩ : ∃ n, n = l.length := ⟨_, rfl⟩
  obtain ⟨xn, hxn⟩ : ∃ n, n = x.length := ⟨_, rfl⟩
  have hI := hI.mono (E' := fun k => E k ∧ k < w.heap.size) (fun k hk h => ⟨h, hk⟩)
  have hx := hx.mono (E' := fun k => E k ∧ k < w.heap.size) (fun k hk h => ⟨h, hk⟩)
  have hE : 0 < cap → ¬ (E g ∧ g < w.heap.size) := fun hc t => hE hc t.1
  have HH := hide (And.intro hI (And.intro hE (And.intro hl (And.intro hx (And.intro hn hxn)))))
  rw [← hn, ← hxn]
  clear hI hE hl hx hn hxn
  go_enter Tryz.func75, Tryz.ntmps75
  go_wp2
  have b1 := ((Bx.new w #[.int .i64 (a : Int), .slice io n cap] 118).alloc (.cells #[.int .i64 2, .int .i64 (s : Int), .slice xo xn xc] 123)).alloc (.cells #[.int .i64 0, .slice none 0 0] 118)
  have b2 := (Bx.new (w.alloc (.cells #[.int .i64 (a : Int), .slice io n cap] 118)) #[.int .i64 2, .int .i64 (s : Int), .slice xo xn xc] 123).alloc (.cells #[.int .i64 0, .slice none 0 0] 118)
  have b3 := Bx.new ((w.alloc (.cells #[.int .i64 (a : Int), .slice io n cap] 118)).alloc (.cells #[.int .i64 2, .int .i64 (s : Int), .slice xo xn xc] 123)) #[.int .i64 0, .slice none 0 0] 118
  simp only [heap_alloc] at b2 b3
  have hFw : Fr (fun _ => False) w (((w.alloc (.cells #[.int .i64 (a : Int), .slice io n cap] 118)).alloc (.cells #[.int .i64 2, .int .i64 (s : Int), .slice xo xn xc] 123)).alloc (.cells #[.int .i64 0, .slice none 0 0] 118)) := (((Fr.refl _ _).alloc _).alloc _).alloc _
  have hzW : (((w.alloc (.cells #[.int .i64 (a : Int), .slice io n cap] 118)).alloc (.cells #[.int .i64 2, .int .i64 (s : Int), .slice xo xn xc] 123)).alloc (.cells #[.int .i64 0, .slice none 0 0] 118)).heap.size = w.heap.size + 1 + 1 + 1 := by simp
  generalize ((w.alloc (.cells #[.int .i64 (a : Int), .slice io n cap] 118)).alloc (.cells #[.int .i64 2, .int .i64 (s : Int), .slice xo xn xc] 123)).alloc (.cells #[.int .i64 0, .slice none 0 0] 118) = W at *
  obtain ⟨ao', cap', w', g', off', hrun, r1, r2, r3, r4⟩ : ∃ ao' cap' w' g' off', (Builtin.append_ #[23, 23] 23 #[.slice io n cap, .slice (some ⟨W.heap.size, 0, none⟩) 1 1]).run Tryz.prog (W.alloc (.cells #[.slice xo xn xc] 28)).drew = .ok (.slice ao' (n + 1) cap') w' ∧ Its (fun k => E k ∧ k < w.heap.size) w' ao' cap' g' off' (l ++ [x]) ∧ Its (fun k => E k ∧ k < w.heap.size) w' io cap g off l ∧ Fr (fun k => k = g ∧ 0 < cap) (W.alloc (.cells #[.slice xo xn xc] 28)).drew w' ∧ ((g' = g ∧ cap' = cap) ∨ W.heap.size ≤ g') := by
    obtain ⟨hI, hE, hl, hx, hn, hxn⟩ := unhide HH
    have hFu : Fr (fun _ => False) w (W.alloc (.cells #[.slice xo xn xc] 28)).drew := (hFw.alloc _).drew
    subst hn hxn
    have hsrc : Src Tryz.prog 1 23 (.slice (some ⟨W.heap.size, 0, none⟩) 1 1) 1 [.slice xo x.length xc] (W.alloc (.cells #[.slice xo x.length xc] 28)).drew :=
      src_one (P := Tryz.prog) W [.slice xo x.length xc] 23 28 1 Tryz.underlying23 rfl (fun u hu => by simp at hu; subst hu; rfl) (fun j => ((Bx.new W #[.slice xo x.length xc] 28).drew.cell j).trans (by simp))
    obtain ⟨ao', cap', w', g', off', q1, q2, q3, q4, q5⟩ := append_its (hI.keep hFu) hE _ _ x (hx.frame hFu (fun _ _ t => t)) hsrc hl 23
    exact ⟨ao', cap', w', g', off', q1, q2, q3, q4, q5.imp id (fun h => by simp at h; omega)⟩
  have hgl : 0 < cap → g < w.heap.size := fun hc => (unhide HH).1.lt hc
  have hFu : Fr (fun k => k = g ∧ 0 < cap) W w' := (((Fr.refl (fun k => k = g ∧ 0 < cap) W).alloc _).drew).trans r3 (fun _ _ t => t)
  have HS : Hid (∀ w'', Fr (fun k => k = w.heap.size + 1 + 1 ∨ (k = g ∧ 0 < cap)) W w'' → w''.cell? ⟨w.heap.size, 0, none⟩ = some (.int .i64 (a : Int)) ∧ w''.cell? ⟨w.heap.size, 1, none⟩ = some (.slice io n cap) ∧ w''.cell? ⟨w.heap.size + 1, 2, none⟩ = some (.slice xo xn xc)) :=
    hide (fun w'' hf => ⟨(b1.frame hf (by omega)).cell 0, (b1.frame hf (by omega)).cell 1, (b2.frame hf (by omega)).cell 2⟩)
  have b3' := b3.frame hFu (by omega)
  have y0 : w'.cell? ⟨w.heap.size + 1 + 1, 0, none⟩ = some (.int .i64 0) := b3'.cell 0
  have y1 : w'.cell? ⟨w.heap.size + 1 + 1, 1, none⟩ = some (.slice none 0 0) := b3'.cell 1
  have z0 := b3'.frozen 0
  have z1 := b3'.frozen 1
  have HB := hide (And.intro b3' (And.intro hFw (And.intro hFu (And.intro r1 (And.intro r2 (And.intro r4 hzW))))))
  have HFU := hide hFu
  clear b1 b2 b3 b3' hFw hFu r1 r2 r3 r4 hgl
  have HRUN := hide hrun
  clear hrun
  have HZ := hide hzW
  clear hzW
  go_region_held3 (fun w'' => w''.cell? ⟨w.heap.size, 0, none⟩ = some (.int .i64 (a : Int)) ∧ w''.cell? ⟨w.heap.size, 1, none⟩ = some (.slice io n cap) ∧ w''.cell? ⟨w.heap.size + 1, 2, none⟩ = some (.slice xo xn xc)) (first | exact unhide HS _ (Fr.refl _ _) | exact unhide HS _ ((Fr.refl _ _).drew) | exact unhide HS _ (((Fr.refl _ _).alloc _).drew) | exact unhide HS _ (((Fr.refl _ _).drew).alloc _) | exact unhide HS _ ((unhide HFU).mono (fun _ _ t => .inr t)) | exact unhide HS _ (((Fr.mono (T := fun k => k = w.heap.size + 1 + 1 ∨ (k = g ∧ 0 < cap)) (unhide HFU) (fun _ _ t => .inr t)).setCell (fun _ => .inl rfl) _).setCell (fun _ => .inl rfl) _)) (refine step_append_run rfl (.tmp 12) (.tmp 15) 23 23 rfl rfl rfl (unhide HRUN) ?_)
  have hfin : Bx ((w'.setCell ⟨w.heap.size + 1 + 1, 0, none⟩ (.int .i64 (a : Int))).setCell ⟨w.heap.size + 1 + 1, 1, none⟩ (.slice ao' (n + 1) cap')) (w.heap.size + 1 + 1) #[.int .i64 (a : Int), .slice ao' (n + 1) cap'] 118 := ((unhide HB).1.setCell 0 _).setCell 1 _
  have HF : Hid (Fr (fun k => k = w.heap.size + 1 + 1) w' ((w'.setCell ⟨w.heap.size + 1 + 1, 0, none⟩ (.int .i64 (a : Int))).setCell ⟨w.heap.size + 1 + 1, 1, none⟩ (.slice ao' (n + 1) cap'))) := hide (((Fr.refl (fun k => k = w.heap.size + 1 + 1) _).setCell (fun _ => rfl) _).setCell (fun _ => rfl) _)
  generalize (w'.setCell ⟨w.heap.size + 1 + 1, 0, none⟩ (.int .i64 (a : Int))).setCell ⟨w.heap.size + 1 + 1, 1, none⟩ (.slice ao' (n + 1) cap') = V at *
  have x0 : V.cell? ⟨w.heap.size + 1 + 1, 0, none⟩ = some (.int .i64 (a : Int)) := hfin.cell 0
  have x1 : V.cell? ⟨w.heap.size + 1 + 1, 1, none⟩ = some (.slice ao' (n + 1) cap') := hfin.cell 1
  clear hfin y0 y1 z0 z1
  go_wp2
  refine bodyPost_ret (v := .agg #[.int .i64 (a : Int), .slice ao' (n + 1) cap']) ?_ rfl ?_
  · simp [results, Tryz.results75, go_sem, x0, x1]
  · obtain ⟨hI, hE, hl, hx, hn, hxn⟩ := unhide HH
    obtain ⟨b3', hFw, hFu, r1, r2, r4, hzW⟩ := unhide HB
    refine ⟨ao', cap', g', off', rfl, (r1.frame (unhide HF) (fun hc t => ?_) (fun k hk t => by omega)).mono (fun _ _ t => t.1), (r2.frame (unhide HF) (fun hc t => ?_) (fun k hk t => by omega)).mono (fun _ _ t => t.1), ?_, ?_⟩
    · rcases r4 with ⟨e1, e2⟩ | e
      · have := hI.lt (by omega); omega
      · omega
    · have := hI.lt hc; omega
    · exact ((hFw.mono (fun _ _ t => t.elim)).trans hFu (fun _ _ t => t)).trans (unhide HF) (fun i hi t => by omega)
    · rcases r4 with e | e
      · exact .inl e
      · exact .inr (by omega)

end Go.Proofs.YtjkghgcdkfkekaaGreatDoor

/- Contracts: a row's become, mayHave, records. -/
namespace Go.Proofs.YtjkghgcdkfkekaaGreatDoor
open Go.RowKit Go.Lib

theorem fr_below' {w w' : World} (h : Fr (fun _ => False) w w') : Below w.heap.size w w' := h.below (Nat.le_refl _) (fun _ t => t.elim)
theorem below_fr' {w w' : World} (h : Below w.heap.size w w') : Fr (fun _ => False) w w' := Fr.of_below h (fun k hk hk2 => absurd hk (by omega))

set_option maxHeartbeats 1000000 in
set_option maxRecDepth 20000 in
theorem become_any (w : World) (E : Nat → Prop) (qb : Nat) (cs : Array Value) (T : TypeId) (hb : Bx w qb cs T) (a na : Nat) (io : Option Addr) (cap g off : Nat) (l : List Bs) (h0 : cs[0]? = some (.int .i64 (a : Int))) (h1 : cs[1]? = some (.slice io l.length cap)) (hI : Its E w io cap g off l) (hE : 0 < cap → ¬ E g) (hqg : 0 < cap → g ≠ qb) (hqE : ¬ E qb) (hle : a ≤ na) (hna : na < 4294967296) (hl : l.length < 4294967296) (ro : Option Addr) (rn rc : Nat) :
    Calls Tryz.prog 77 #[.pointer (some ⟨qb, 0, none⟩), .agg #[.int .i64 (na : Int), .slice ro rn rc]] w fun e w' => e = .returned (.tuple #[]) ∧ Bx w' qb ((cs.setIfInBounds 0 (.int .i64 (na : Int))).setIfInBounds 1 (.slice ro rn rc)) T ∧ Fr (fun k => k = qb ∨ (k = g ∧ 0 < cap ∧ 0 < min (na - a) l.length)) w w' ∧ ∀ ao', (0 < cap - min (na - a) l.length → ao' = some ⟨g, off + min (na - a) l.length, none⟩) → Its E w' ao' (cap - min (na - a) l.length) g (off + min (na - a) l.length) (l.drop (min (na - a) l.length)) := by
  have hcap := hI.le
  have had : 0 < cap → io = some ⟨g, off, none⟩ := by obtain ⟨vs, q1, q2, q3⟩ := hI.ex; exact q1.ad
  obtain ⟨k, hk⟩ : ∃ k, k = min (na - a) l.length := ⟨_, rfl⟩
  rw [← hk]
  have hkl : k ≤ l.length := by omega
  have hwr : IntKind.i64.wrap ((na : Int) - (a : Int)) = (na : Int) - (a : Int) := by rw [IntKind.wrap_i64]; omega
  have hmin : ∀ (ts : Array TypeId) (t : TypeId) (u : World), (Builtin.min_ ts t #[.int .i64 ((na : Int) - (a : Int)), .int .i64 (l.length : Int)]).run Tryz.prog u = .ok (.int .i64 (k : Int)) u := fun ts t u => by
    rw [run_min_int2]
    congr 2
    split <;> omega
  have hsl : ∀ u : World, (Instr.slice 23 (.slice io l.length cap) none (some (.int .i64 (k : Int))) none).run Tryz.prog u = .ok (.slice io k cap) u := fun u => by
    rw [run_slice_h (P := Tryz.prog) (w := u) 23 io l.length cap Tryz.underlying23 .i64 (k : Int) (by omega) (by omega)]
    have e : sliced io 0 (k : Int).toNat cap 1 = .slice io k cap := by
      simp only [sliced, Int.toNat_natCast, Nat.zero_mul, Nat.sub_zero]
      congr 1
      split
      · rfl
      · rw [had (by omega)]; simp [Addr.add_lit]
    rw [← e]; rfl
  have hlt := hb.lt
  have HH := hide (And.intro hb (And.intro hI (And.intro hE (And.intro hqg (And.intro hqE (And.intro hkl (And.intro h0 h1)))))))
  have c0 : w.cell? ⟨qb, 0, none⟩ = some (.int .i64 (a : Int)) := (hb.cell 0).trans h0
  have c1 : w.cell? ⟨qb, 1, none⟩ = some (.slice io l.length cap) := (hb.cell 1).trans h1
  have hlI : (l.length : Int) < 4294967296 := by omega
  have hnaI : (na : Int) < 4294967296 := by omega
  have hF0 : Fr (fun _ => False) w (w.alloc (.cells #[.int .i64 (na : Int), .slice ro rn rc] 118)) := (Fr.refl _ _).alloc _
  have b0 := Bx.new w #[.int .i64 (na : Int), .slice ro rn rc] 118
  obtain ⟨W1, hclr, f1, i1⟩ := clear_its (hI.keep hF0.drew) hE k hkl
  have HX := hide (And.intro hF0 (And.intro b0 (And.intro f1 i1)))
  generalize hln : l.length = n at *
  have HN := hide hln
  clear hb hI hE hqg hqE hkl h0 h1 had hcap hk hle hna hl hF0 b0 f1 i1 hln
  go_enter Tryz.func77, Tryz.ntmps77
  have d0 : W1.cell? ⟨qb, 0, none⟩ = some (.int .i64 (a : Int)) ∧ W1.cell? ⟨qb, 1, none⟩ = some (.slice io n cap) ∧ W1.frozen? ⟨qb, 0, none⟩ = false ∧ W1.frozen? ⟨qb, 1, none⟩ = false ∧ W1.cell? ⟨w.heap.size, 0, none⟩ = some (.int .i64 (na : Int)) ∧ W1.cell? ⟨w.heap.size, 1, none⟩ = some (.slice ro rn rc) := by
    obtain ⟨hF0, b0, f1, i1⟩ := unhide HX
    obtain ⟨hb, hI, hE, hqg, hqE, hkl, h0, h1⟩ := unhide HH
    have hgl : 0 < cap → g < w.heap.size := fun hc => hI.lt hc
    have e1 : Bx W1 qb cs T := (hb.keep hF0.drew).frame f1 (fun t => hqg t.2.1 t.1.symm)
    have e2 : Bx W1 w.heap.size #[.int .i64 (na : Int), .slice ro rn rc] 118 := b0.drew.frame f1 (fun t => by have := hgl t.2.1; omega)
    exact ⟨(e1.cell 0).trans h0, (e1.cell 1).trans h1, e1.frozen 0, e1.frozen 1, e2.cell 0, e2.cell 1⟩
  obtain ⟨d0, d1, d2, d3, d4, d5⟩ := d0
  go_wp2
  have HS : Hid ((w.alloc (.cells #[.int .i64 (na : Int), .slice ro rn rc] 118)).cell? ⟨w.heap.size, 0, none⟩ = some (.int .i64 (na : Int)) ∧ (w.alloc (.cells #[.int .i64 (na : Int), .slice ro rn rc] 118)).cell? ⟨qb, 0, none⟩ = some (.int .i64 (a : Int)) ∧ (w.alloc (.cells #[.int .i64 (na : Int), .slice ro rn rc] 118)).cell? ⟨qb, 1, none⟩ = some (.slice io n cap)) := by
    obtain ⟨hF0, b0, f1, i1⟩ := unhide HX
    obtain ⟨hb, hI, hE, hqg, hqE, hkl, h0, h1⟩ := unhide HH
    exact hide ⟨b0.cell 0, ((hb.keep hF0).cell 0).trans h0, ((hb.keep hF0).cell 1).trans h1⟩
  go_region_held3 (fun w' => w'.cell? ⟨w.heap.size, 0, none⟩ = some (.int .i64 (na : Int)) ∧ w'.cell? ⟨qb, 0, none⟩ = some (.int .i64 (a : Int)) ∧ w'.cell? ⟨qb, 1, none⟩ = some (.slice io n cap)) (exact unhide HS) (fail)
  have e1 : (w.alloc (.cells #[.int .i64 (na : Int), .slice ro rn rc] 118)).cell? ⟨qb, 1, none⟩ = some (.slice io n cap) := (unhide HS).2.2
  go_wp2
  go_end0
  obtain ⟨hF0, b0, f1, i1⟩ := unhide HX
  obtain ⟨hb, hI, hE, hqg, hqE, hkl, h0, h1⟩ := unhide HH
  have e1 : Bx W1 qb cs T := (hb.keep hF0.drew).frame f1 (fun t => hqg t.2.1 t.1.symm)
  have f2 : Fr (fun q => q = qb) W1 ((W1.setCell ⟨qb, 0, none⟩ (.int .i64 (na : Int))).setCell ⟨qb, 1, none⟩ (.slice ro rn rc)) := ((Fr.refl (fun q => q = qb) _).setCell (fun _ => rfl) _).setCell (fun _ => rfl) _
  refine ⟨rfl, (e1.setCell 0 _).setCell 1 _, ?_, fun ao' had => (i1 ao' had).frame f2 (fun hc t => hqg (by omega) t) (fun q hq t => hqE (by rw [← t]; exact hq))⟩
  exact ((hF0.drew.mono (fun _ _ t => t.elim)).trans f1 (fun i _ t => .inr t)).trans f2 (fun i _ t => .inl t)

/-- May a row have a change? -/
def mayF (a n k s : Nat) (first : Bool) : Bool := if k = 1 then first else if k = 2 then decide (s = a + n + 1) && decide (n < 4096) else if k = 3 then decide (a < s) && decide (s ≤ a + n) else false
theorem may_mayF (q : Qr) (c : Cg) (first : Bool) : q.may c first = mayF q.acked q.items.length c.k c.s first := rfl

set_option maxHeartbeats 1000000 in
set_option maxRecDepth 20000 in
theorem may1 (w : World) (a n : Nat) (io : Option Addr) (ic : Nat) (s : Nat) (xo : Option Addr) (xn xc : Nat) (first : Bool) :
    Calls Tryz.prog 85 #[.agg #[.int .i64 (a : Int), .slice io n ic], .agg #[.int .i64 1, .int .i64 (s : Int), .slice xo xn xc], .bool first] w fun e w' => e = .returned (.bool first) ∧ Fr (fun _ => False) w w' := by
  have HF : Hid (Fr (fun _ => False) w ((w.alloc (.cells #[.int .i64 (a : Int), .slice io n ic] 118)).alloc (.cells #[.int .i64 1, .int .i64 (s : Int), .slice xo xn xc] 123))) := hide (((Fr.refl _ _).alloc _).alloc _)
  go_enter Tryz.func85, Tryz.ntmps85
  go_wp2
  go_ret
  exact ⟨rfl, unhide HF⟩

set_option maxHeartbeats 1000000 in
set_option maxRecDepth 20000 in
theorem mayx (w : World) (a n : Nat) (io : Option Addr) (ic : Nat) (k : Nat) (s : Nat) (xo : Option Addr) (xn xc : Nat) (first : Bool) (h1 : k ≠ 1) (h2 : k ≠ 2) (h3 : k ≠ 3) :
    Calls Tryz.prog 85 #[.agg #[.int .i64 (a : Int), .slice io n ic], .agg #[.int .i64 (k : Int), .int .i64 (s : Int), .slice xo xn xc], .bool first] w fun e w' => e = .returned (.bool false) ∧ Fr (fun _ => False) w w' := by
  have HF : Hid (Fr (fun _ => False) w ((w.alloc (.cells #[.int .i64 (a : Int), .slice io n ic] 118)).alloc (.cells #[.int .i64 (k : Int), .int .i64 (s : Int), .slice xo xn xc] 123))) := hide (((Fr.refl _ _).alloc _).alloc _)
  have k1 : ¬ (k : Int) = 1 := by omega
  have k2 : ¬ (k : Int) = 2 := by omega
  have k3 : ¬ (k : Int) = 3 := by omega
  clear h1 h2 h3
  go_enter Tryz.func85, Tryz.ntmps85
  go_wp2
  go_ret
  exact ⟨rfl, unhide HF⟩

set_option maxHeartbeats 1000000 in
set_option maxRecDepth 20000 in
theorem may2 (w : World) (a n : Nat) (io : Option Addr) (ic : Nat) (s : Nat) (xo : Option Addr) (xn xc : Nat) (first : Bool) (ha : a + n < 1099511627776) :
    Calls Tryz.prog 85 #[.agg #[.int .i64 (a : Int), .slice io n ic], .agg #[.int .i64 2, .int .i64 (s : Int), .slice xo xn xc], .bool first] w fun e w' => e = .returned (.bool (decide (s = a + n + 1) && decide (n < 4096))) ∧ Fr (fun _ => False) w w' := by
  have b1 := (Bx.new w #[.int .i64 (a : Int), .slice io n ic] 118).alloc (.cells #[.int .i64 2, .int .i64 (s : Int), .slice xo xn xc] 123)
  have b2 := Bx.new (w.alloc (.cells #[.int .i64 (a : Int), .slice io n ic] 118)) #[.int .i64 2, .int .i64 (s : Int), .slice xo xn xc] 123
  simp only [heap_alloc] at b2
  have hF0 : Fr (fun _ => False) w ((w.alloc (.cells #[.int .i64 (a : Int), .slice io n ic] 118)).alloc (.cells #[.int .i64 2, .int .i64 (s : Int), .slice xo xn xc] 123)) := ((Fr.refl _ _).alloc _).alloc _
  obtain ⟨L, hL⟩ : ∃ L, L = a + n := ⟨_, rfl⟩
  have HL : Hid (∀ u, Calls Tryz.prog 54 #[.agg #[.int .i64 (a : Int), .slice io n ic]] u fun e w' => e = .returned (.int .i64 (L : Int)) ∧ Fr (fun _ => False) u w') := hide (fun u => by rw [hL]; exact qlast_any u a n io ic (by omega))
  have HS : Hid (∀ w', Fr (fun _ => False) ((w.alloc (.cells #[.int .i64 (a : Int), .slice io n ic] 118)).alloc (.cells #[.int .i64 2, .int .i64 (s : Int), .slice xo xn xc] 123)) w' → w'.cell? ⟨w.heap.size + 1, 1, none⟩ = some (.int .i64 (s : Int)) ∧ w'.cell? ⟨w.heap.size, 0, none⟩ = some (.int .i64 (a : Int)) ∧ w'.cell? ⟨w.heap.size, 1, none⟩ = some (.slice io n ic)) :=
    hide (fun w' hf => ⟨(b2.keep hf).cell 1, (b1.keep hf).cell 0, (b1.keep hf).cell 1⟩)
  have HF := hide hF0
  have hLI : (L : Int) < 1099511627776 := by omega
  have hwr : IntKind.i64.wrap ((L : Int) + 1) = (L : Int) + 1 := by rw [IntKind.wrap_i64]; omega
  clear b1 b2 hF0 
  by_cases hs1 : s = a + n + 1
  · have hd : ((s : Int) == (L : Int) + 1) = true := by simp; omega
    have hd2 : decide (s = L + 1) = true := by simp; omega
    have hd3 : (s == L + 1) = true := by simp; omega
    have hm : (decide (s = a + n + 1) && decide (n < 4096)) = decide (n < 4096) := by rw [decide_eq_true hs1]; rfl
    rw [hm]
    have hn : decide ((n : Int) < 4096) = decide (n < 4096) := by by_cases h : n < 4096; (· rw [decide_eq_true h, decide_eq_true (by omega)]); (· rw [decide_eq_false h, decide_eq_false (by omega)])
    generalize decide (n < 4096) = bn at *
    clear hs1 hm hL ha
    go_enter Tryz.func85, Tryz.ntmps85
    go_wp2
    go_region_held3 (fun w' => w'.cell? ⟨w.heap.size + 1, 1, none⟩ = some (.int .i64 (s : Int)) ∧ w'.cell? ⟨w.heap.size, 0, none⟩ = some (.int .i64 (a : Int)) ∧ w'.cell? ⟨w.heap.size, 1, none⟩ = some (.slice io n ic)) (first | exact unhide HS _ (Fr.refl _ _) | exact unhide HS _ ((Fr.refl _ _).drew) | exact unhide HS _ (((Fr.refl _ _).drew).trans hF5 (fun _ _ t => t))) (first | (go_at_call 54; refine (unhide HL _).mono ?_; rintro e w5 ⟨rfl, hF5⟩))
    go_wp2
    go_ret
    exact ⟨by simp, ((unhide HF).drew).trans hF5 (fun _ _ t => t)⟩
  · have hd : ((s : Int) == (L : Int) + 1) = false := by simp; omega
    have hd2 : decide (s = L + 1) = false := by simp; omega
    have hd3 : (s == L + 1) = false := by simp; omega
    have hm : (decide (s = a + n + 1) && decide (n < 4096)) = false := by rw [decide_eq_false hs1]; rfl
    rw [hm]
    clear hs1 hm hL ha
    go_enter Tryz.func85, Tryz.ntmps85
    go_wp2
    obtain ⟨W, hW⟩ : ∃ W, W = ((w.alloc (.cells #[.int .i64 (a : Int), .slice io n ic] 118)).alloc (.cells #[.int .i64 2, .int .i64 (s : Int), .slice xo xn xc] 123)) := ⟨_, rfl⟩
    rw [← hW] at HS HF ⊢
    clear hW
    obtain ⟨c0, c1, c2⟩ := unhide HS _ (Fr.refl _ _)
    have X0 := fun d os => cell_regrown c0 d os
    have X1 := fun d os => cell_regrown c1 d os
    have X2 := fun d os => cell_regrown c2 d os
    clear c0 c1 c2 HS
    refine wp_region_quiet_below (by kernel_rfl) (by kernel_rfl) ?_
    repeat (first | go_big_quiet_skip | (go_big_quiet_want; go_big_quiet_op; go_big_quiet_on))
    (go_big_quiet_want; go_big_quiet_op; go_big_quiet_call (exact Calls.regrown_of ((unhide HL _).mono fun _ _ h => ⟨h.1, fr_below' h.2⟩)))
    repeat (first | go_big_quiet_skip | (go_big_quiet_want; go_big_quiet_op; go_big_quiet_on))
    refine wpQuiet_nil ?_
    intro _ hw'
    obtain ⟨⟨dq, osq⟩, hw''⟩ := hw'
    subst hw''
    have HB := hide ((unhide HF).trans (below_fr' (below_regrown W dq osq)) (fun _ _ t => t))
    go_wp2
    go_ret
    exact ⟨rfl, unhide HB⟩

set_option maxHeartbeats 1000000 in
set_option maxRecDepth 20000 in
theorem may3 (w : World) (a n : Nat) (io : Option Addr) (ic : Nat) (s : Nat) (xo : Option Addr) (xn xc : Nat) (first : Bool) (ha : a + n < 1099511627776) :
    Calls Tryz.prog 85 #[.agg #[.int .i64 (a : Int), .slice io n ic], .agg #[.int .i64 3, .int .i64 (s : Int), .slice xo xn xc], .bool first] w fun e w' => e = .returned (.bool (decide (a < s) && decide (s ≤ a + n))) ∧ Fr (fun _ => False) w w' := by
  have b1 := (Bx.new w #[.int .i64 (a : Int), .slice io n ic] 118).alloc (.cells #[.int .i64 3, .int .i64 (s : Int), .slice xo xn xc] 123)
  have b2 := Bx.new (w.alloc (.cells #[.int .i64 (a : Int), .slice io n ic] 118)) #[.int .i64 3, .int .i64 (s : Int), .slice xo xn xc] 123
  simp only [heap_alloc] at b2
  have hF0 : Fr (fun _ => False) w ((w.alloc (.cells #[.int .i64 (a : Int), .slice io n ic] 118)).alloc (.cells #[.int .i64 3, .int .i64 (s : Int), .slice xo xn xc] 123)) := ((Fr.refl _ _).alloc _).alloc _
  obtain ⟨L, hL⟩ : ∃ L, L = a + n := ⟨_, rfl⟩
  have HL : Hid (∀ u, Calls Tryz.prog 54 #[.agg #[.int .i64 (a : Int), .slice io n ic]] u fun e w' => e = .returned (.int .i64 (L : Int)) ∧ Fr (fun _ => False) u w') := hide (fun u => by rw [hL]; exact qlast_any u a n io ic (by omega))
  have HS : Hid (∀ w', Fr (fun _ => False) ((w.alloc (.cells #[.int .i64 (a : Int), .slice io n ic] 118)).alloc (.cells #[.int .i64 3, .int .i64 (s : Int), .slice xo xn xc] 123)) w' → w'.cell? ⟨w.heap.size + 1, 1, none⟩ = some (.int .i64 (s : Int)) ∧ w'.cell? ⟨w.heap.size, 0, none⟩ = some (.int .i64 (a : Int)) ∧ w'.cell? ⟨w.heap.size, 1, none⟩ = some (.slice io n ic)) :=
    hide (fun w' hf => ⟨(b2.keep hf).cell 1, (b1.keep hf).cell 0, (b1.keep hf).cell 1⟩)
  have HF := hide hF0
  have hLI : (L : Int) < 1099511627776 := by omega
  have hwr : IntKind.i64.wrap ((L : Int) + 1) = (L : Int) + 1 := by rw [IntKind.wrap_i64]; omega
  clear b1 b2 hF0 
  by_cases hs1 : a < s
  · have hd2 : decide (a < s) = true := by simp; omega
    have hle : decide (s ≤ L) = decide (s ≤ a + n) := by rw [hL]
    have hm : (decide (a < s) && decide (s ≤ a + n)) = decide (s ≤ a + n) := by rw [decide_eq_true hs1]; rfl
    rw [hm]
    have hn : decide ((s : Int) ≤ (L : Int)) = decide (s ≤ a + n) := by by_cases h : s ≤ a + n; (· rw [decide_eq_true h, decide_eq_true (by omega)]); (· rw [decide_eq_false h, decide_eq_false (by omega)])
    generalize decide (s ≤ a + n) = bn at *
    clear hs1 hm hL ha
    go_enter Tryz.func85, Tryz.ntmps85
    go_wp2
    go_region_held3 (fun w' => w'.cell? ⟨w.heap.size + 1, 1, none⟩ = some (.int .i64 (s : Int)) ∧ w'.cell? ⟨w.heap.size, 0, none⟩ = some (.int .i64 (a : Int)) ∧ w'.cell? ⟨w.heap.size, 1, none⟩ = some (.slice io n ic)) (first | exact unhide HS _ (Fr.refl _ _) | exact unhide HS _ ((Fr.refl _ _).drew) | exact unhide HS _ (((Fr.refl _ _).drew).trans hF5 (fun _ _ t => t))) (first | (go_at_call 54; refine (unhide HL _).mono ?_; rintro e w5 ⟨rfl, hF5⟩))
    go_wp2
    go_ret
    exact ⟨by simp, ((unhide HF).drew).trans hF5 (fun _ _ t => t)⟩
  · have hd2 : decide (a < s) = false := by simp; omega
    have hm : (decide (a < s) && decide (s ≤ a + n)) = false := by rw [decide_eq_false hs1]; rfl
    rw [hm]
    clear hs1 hm hL ha
    go_enter Tryz.func85, Tryz.ntmps85
    go_wp2
    obtain ⟨W, hW⟩ : ∃ W, W = ((w.alloc (.cells #[.int .i64 (a : Int), .slice io n ic] 118)).alloc (.cells #[.int .i64 3, .int .i64 (s : Int), .slice xo xn xc] 123)) := ⟨_, rfl⟩
    rw [← hW] at HS HF ⊢
    clear hW
    obtain ⟨c0, c1, c2⟩ := unhide HS _ (Fr.refl _ _)
    have X0 := fun d os => cell_regrown c0 d os
    have X1 := fun d os => cell_regrown c1 d os
    have X2 := fun d os => cell_regrown c2 d os
    clear c0 c1 c2 HS
    refine wp_region_quiet_below (by kernel_rfl) (by kernel_rfl) ?_
    repeat (first | go_big_quiet_skip | (go_big_quiet_want; go_big_quiet_op; go_big_quiet_on))
    refine wpQuiet_nil ?_
    intro _ hw'
    obtain ⟨⟨dq, osq⟩, hw''⟩ := hw'
    subst hw''
    have HB := hide ((unhide HF).trans (below_fr' (below_regrown W dq osq)) (fun _ _ t => t))
    go_wp2
    go_ret
    exact ⟨rfl, unhide HB⟩

theorem mayHave_any (w : World) (a n : Nat) (io : Option Addr) (ic : Nat) (k s : Nat) (xo : Option Addr) (xn xc : Nat) (first : Bool) (ha : a + n < 1099511627776) :
    Calls Tryz.prog 85 #[.agg #[.int .i64 (a : Int), .slice io n ic], .agg #[.int .i64 (k : Int), .int .i64 (s : Int), .slice xo xn xc], .bool first] w fun e w' => e = .returned (.bool (mayF a n k s first)) ∧ Fr (fun _ => False) w w' := by
  by_cases k1 : k = 1
  · subst k1; exact may1 w a n io ic s xo xn xc first
  by_cases k2 : k = 2
  · subst k2; exact may2 w a n io ic s xo xn xc first ha
  by_cases k3 : k = 3
  · subst k3; exact may3 w a n io ic s xo xn xc first ha
  have := mayx w a n io ic k s xo xn xc first k1 k2 k3
  rw [mayF, if_neg k1, if_neg k2, if_neg k3]
  exact this

end Go.Proofs.YtjkghgcdkfkekaaGreatDoor

