import Derived.Test.YtlhgfnpialndaaaE1
/- Which entries and accounts may be. -/
namespace Go.Proofs.Ytlhgfnpialndaaa
open Go.RowKit

/-- An entry of the ledger; an account. -/
structure En where
  run : Int
  tok : ByteArray
  amount : Int
  paid : Bool
structure Ac where
  tok : ByteArray
  charged : Int
  paid : Int
def enC (t : En) : Array Value := #[.int .i64 t.run, .string t.tok, .int .i64 t.amount, .bool t.paid]
def acC (t : Ac) : Array Value := #[.string t.tok, .int .i64 t.charged, .int .i64 t.paid]

def entryOk (t : En) : Bool := isIn t.run 1 2147483648 && isTok t.tok && isIn t.amount (-9007199254740992) 9007199254740992 && (t.amount != 0)
def entryE (t : En) : Int := if entryOk t then 0 else 80
def accountOk (t : Ac) : Bool := isTok t.tok && isIn t.charged 0 9007199254740992 && isIn t.paid 0 t.charged
def accountE (t : Ac) : Int := if accountOk t then 0 else 80

theorem entry_small (t : En) (h : entryOk t = true) : t.run ≤ 9223372036854775807 := by
  simp only [entryOk, Bool.and_eq_true, isIn_iff] at h
  omega
theorem account_small (t : Ac) (h : accountOk t = true) : t.charged ≤ 9223372036854775807 ∧ t.paid ≤ 9223372036854775807 := by
  simp only [accountOk, Bool.and_eq_true, isIn_iff] at h
  omega

theorem accountOk_alt (t : Ac) : accountOk t = (isTok t.tok && isIn t.charged (-9007199254740992) 9007199254740992 && isIn t.paid 0 t.charged) := by
  unfold accountOk
  rw [Bool.eq_iff_iff]
  simp only [Bool.and_eq_true, isIn_iff]
  constructor <;> (rintro ⟨⟨h1, h2⟩, h3⟩; exact ⟨⟨h1, by omega⟩, h3⟩)

set_option maxHeartbeats 1000000 in
theorem accountError_any (t : Ac) (w : World) : Calls Try.prog 41 #[.agg (acC t)] w fun e w' => e = .returned (.int .i64 (accountE t)) ∧ Fr (fun _ => False) w w' := by
  obtain ⟨b1, hb1⟩ : ∃ b, isTok t.tok = b := ⟨_, rfl⟩
  obtain ⟨b2, hb2⟩ : ∃ b, isIn t.charged 0 9007199254740992 = b := ⟨_, rfl⟩
  obtain ⟨b3, hb3⟩ : ∃ b, isIn t.paid 0 t.charged = b := ⟨_, rfl⟩
  have HE : Hid (accountE t = (if b1 && b2 && b3 then 0 else 80)) := hide (by unfold accountE accountOk; rw [hb1, hb2, hb3])
  have R1 := hide (isToken_is hb1)
  have R2 := hide (isFrom_is hb2)
  have R3 := hide (isFrom_is hb3)
  clear hb1 hb2 hb3
  generalize accountE t = E at HE ⊢
  unfold acC
  obtain ⟨tok, charged, paid⟩ := t
  simp only at R1 R2 R3 ⊢
  have HF : Hid (Fr (fun _ => False) w (w.alloc (.cells #[.string tok, .int .i64 charged, .int .i64 paid] 26))) := hide ((Fr.refl _ _).alloc _)
  go_enter Try.func41, Try.ntmps41
  go_wp2_with fail
  refine (unhide R1 _).mono ?_
  rintro e w1 ⟨rfl, rfl⟩
  cases b1
  · go_wp2_with fail
    refine (errorUnless_any false _).mono ?_
    rintro e w1 ⟨rfl, rfl⟩
    go_wp2
    go_ret
    exact ⟨by rw [unhide HE]; first | rfl | simp, unhide HF⟩
  · skip
    go_wp2_with fail
    refine (unhide R2 _).mono ?_
    rintro e w1 ⟨rfl, rfl⟩
    cases b2
    · go_wp2_with fail
      refine (errorUnless_any false _).mono ?_
      rintro e w1 ⟨rfl, rfl⟩
      go_wp2
      go_ret
      exact ⟨by rw [unhide HE]; first | rfl | simp, unhide HF⟩
    · skip
      go_wp2_with fail
      refine (unhide R3 _).mono ?_
      rintro e w1 ⟨rfl, rfl⟩
      cases b3
      · go_wp2_with fail
        refine (errorUnless_any false _).mono ?_
        rintro e w1 ⟨rfl, rfl⟩
        go_wp2
        go_ret
        exact ⟨by rw [unhide HE]; first | rfl | simp, unhide HF⟩
      · skip
        go_wp2_with fail
        refine (errorUnless_any true _).mono ?_
        rintro e w1 ⟨rfl, rfl⟩
        go_wp2
        go_ret
        exact ⟨by rw [unhide HE]; first | rfl | simp, unhide HF⟩

set_option maxHeartbeats 1000000 in
theorem AccountRight_any (t : Ac) (w : World) : Calls Try.prog 21 #[.agg (acC t)] w fun e w' => e = .returned (.bool (accountOk t)) ∧ Fr (fun _ => False) w w' := by
  obtain ⟨b1, hb1⟩ : ∃ b, isTok t.tok = b := ⟨_, rfl⟩
  obtain ⟨b2, hb2⟩ : ∃ b, isIn t.charged (-9007199254740992) 9007199254740992 = b := ⟨_, rfl⟩
  obtain ⟨b3, hb3⟩ : ∃ b, isIn t.paid 0 t.charged = b := ⟨_, rfl⟩
  have HE : Hid (accountOk t = (b1 && b2 && b3)) := hide (by rw [accountOk_alt, hb1, hb2, hb3])
  have R2 := hide (rmoney_is hb2)
  have R3 := hide (within_is hb3)
  have kb1 : ((t.tok.size : Int) == 8) = b1 := hb1
  clear hb1 hb2 hb3
  generalize accountOk t = E at HE ⊢
  unfold acC
  obtain ⟨tok, charged, paid⟩ := t
  simp only at R2 R3 kb1 ⊢
  have HF : Hid (Fr (fun _ => False) w (w.alloc (.cells #[.string tok, .int .i64 charged, .int .i64 paid] 26))) := hide ((Fr.refl _ _).alloc _)
  go_enter Try.func21, Try.ntmps21
  go_wp2_with fail
  refine (unhide R2 _).mono ?_
  rintro e w1 ⟨rfl, rfl⟩
  cases b1
  · go_wp2
    go_ret
    exact ⟨by rw [unhide HE]; first | rfl | simp, unhide HF⟩
  · skip
    cases b2
    · go_wp2
      go_ret
      exact ⟨by rw [unhide HE]; first | rfl | simp, unhide HF⟩
    · skip
      go_wp2_with fail
      refine (unhide R3 _).mono ?_
      rintro e w1 ⟨rfl, rfl⟩
      cases b3
      · go_wp2
        go_ret
        exact ⟨by rw [unhide HE]; first | rfl | simp, unhide HF⟩
      · skip
        go_wp2
        go_ret
        exact ⟨by rw [unhide HE]; first | rfl | simp, unhide HF⟩

end Go.Proofs.Ytlhgfnpialndaaa

