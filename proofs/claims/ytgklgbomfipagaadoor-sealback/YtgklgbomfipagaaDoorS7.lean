/- The region of Open that draws its order. -/
import Derived.Test.YtgklgbomfipagaaDoorS6
import Derived.Test.YtgklgbomfipagaaDoorK4
namespace Go.Proofs.YtgklgbomfipagaaDoor
open Go.RowKit

set_option maxHeartbeats 1000000 in
theorem op6_any {Q : Exit → Act → World → Prop} (w0 : World) (hT : TabP w0) (s : List UInt8) (hs : s.length ≤ 200) (b off m bcap : Nat) (x y : List UInt8) (hx : x.length = m) (hy : y.length = 16) (hX : BAt w0 (some ⟨b, off, none⟩) bcap x) (hY : BAt w0 (some ⟨b, off + m, none⟩) (bcap - m) y) (hm : m + 16 ≤ bcap) (hsm : m + 16 ≤ 140737488355328) (u2 u3 u4 u5 u7 u8 u9 u10 u11 u12 u13 u14 u15 u16 u17 u18 u19 u20 u21 u22 u23 u24 u25 u26 u27 : Value) (hQ : ∀ c (a : Act) (t : Tmp) v w, Q (.panic c) (a.put (some t) v) w → Q (.panic c) a w)
    (h : ∀ w9 so sc, Fr (fun _ => False) w0 w9 → Q .normal { tmps := #[(.string ⟨s.toArray⟩ : Value), (.slice (some ⟨b, off, none⟩) (m + 16) bcap), u2, u3, u4, u5, (.int .i64 m), u7, u8, u9, u10, u11, u12, u13, (.string ⟨s.toArray⟩), (.slice (some ⟨b, off, none⟩) (m + 16) bcap), (.int .i64 m), (.slice (some ⟨b, off, none⟩) m bcap), (.slice so 16 sc), (.slice (some ⟨b, off, none⟩) (m + 16) bcap), (.int .i64 m), (.slice (some ⟨b, off + m, none⟩) 16 (bcap - m)), (.bool (decide ((hmac s x).take 16 = y))), (.bool (!decide ((hmac s x).take 16 = y))), u24, u25, u26, u27], defers := [] } w9) :
    (Code.region 6 #[{ dst := some 14, op := Go.Op.move (Go.Operand.tmp 0), type := 9, pos := "seal.go:63", after := #[], guard := none }, { dst := some 15, op := Go.Op.move (Go.Operand.tmp 1), type := 22, pos := "seal.go:63", after := #[], guard := none }, { dst := some 16, op := Go.Op.move (Go.Operand.tmp 6), type := 3, pos := "seal.go:63", after := #[], guard := none }, { dst := some 17, op := Go.Op.slice 22 (Go.Operand.tmp 15) none (some (Go.Operand.tmp 16)) none, type := 22, pos := "seal.go:63", after := #[{ on := 1, ground := Go.Ground.data }, { on := 2, ground := Go.Ground.data }], guard := none }, { dst := some 18, op := Go.Op.call { callee := Go.Callee.value (Go.Operand.func 29), args := #[Go.Operand.tmp 14, Go.Operand.tmp 17], argTypes := #[9, 22] }, type := 22, pos := "seal.go:63", after := #[{ on := 0, ground := Go.Ground.data }, { on := 3, ground := Go.Ground.data }], guard := none }, { dst := some 19, op := Go.Op.move (Go.Operand.tmp 1), type := 22, pos := "seal.go:63", after := #[], guard := none }, { dst := some 20, op := Go.Op.move (Go.Operand.tmp 6), type := 3, pos := "seal.go:63", after := #[], guard := none }, { dst := some 21, op := Go.Op.slice 22 (Go.Operand.tmp 19) (some (Go.Operand.tmp 20)) none none, type := 22, pos := "seal.go:63", after := #[{ on := 5, ground := Go.Ground.data }, { on := 6, ground := Go.Ground.data }], guard := none }, { dst := some 22, op := Go.Op.call { callee := Go.Callee.value (Go.Operand.func 14), args := #[Go.Operand.tmp 18, Go.Operand.tmp 21], argTypes := #[22, 22] }, type := 4, pos := "seal.go:63", after := #[{ on := 4, ground := Go.Ground.data }, { on := 7, ground := Go.Ground.data }, { on := 4, ground := Go.Ground.chain }], guard := none }, { dst := some 23, op := Go.Op.unOp Go.UnOp.not 4 (Go.Operand.tmp 22), type := 4, pos := "seal.go:63", after := #[{ on := 8, ground := Go.Ground.data }], guard := none }] true).wp Tryd.prog Q { tmps := #[(.string ⟨s.toArray⟩ : Value), (.slice (some ⟨b, off, none⟩) (m + 16) bcap), u2, u3, u4, u5, (.int .i64 m), u7, u8, u9, u10, u11, u12, u13, u14, u15, u16, u17, u18, u19, u20, u21, u22, u23, u24, u25, u26, u27], defers := [] } w0 := by
  refine wp_region_held_drew (S := fun w' => Fr (fun _ => False) w0 w') (by kernel_rfl) (Fr.refl _ w0).drew (fun hS => ?_)
  have e1 : (0 : Int) ≤ (m : Int) ∧ (m : Int) ≤ (bcap : Int) := by omega
  have e2 : (m : Int) ≤ (m : Int) + 16 := by omega
  have e4 : ¬ bcap = m := by omega
  have e5 : m + 16 - m = 16 := by omega
  refine wpAnyH_take (i := 0) (v := (.string ⟨s.toArray⟩)) rfl (by kernel_rfl) (by kernel_rfl) (by kernel_rfl) (fun _ _ _ h => hQ _ _ _ _ _ h) (Or.inl ⟨by kernel_rfl, fun w _ => by go_simp⟩) (by assumption) ?_
  refine wpAnyH_take (i := 1) (v := (.slice (some ⟨b, off, none⟩) (m + 16) bcap)) rfl (by kernel_rfl) (by kernel_rfl) (by kernel_rfl) (fun _ _ _ h => hQ _ _ _ _ _ h) (Or.inl ⟨by kernel_rfl, fun w _ => by go_simp⟩) (by assumption) ?_
  refine wpAnyH_take (i := 2) (v := (.int .i64 m)) rfl (by kernel_rfl) (by kernel_rfl) (by kernel_rfl) (fun _ _ _ h => hQ _ _ _ _ _ h) (Or.inl ⟨by kernel_rfl, fun w _ => by go_simp⟩) (by assumption) ?_
  refine wpAnyH_take (i := 3) (v := (.slice (some ⟨b, off, none⟩) m bcap)) rfl (by kernel_rfl) (by kernel_rfl) (by kernel_rfl) (fun _ _ _ h => hQ _ _ _ _ _ h) (Or.inl ⟨by kernel_rfl, fun w _ => by go_simp⟩) (by assumption) ?_
  refine wpAnyH_take (i := 5) (v := (.slice (some ⟨b, off, none⟩) (m + 16) bcap)) rfl (by kernel_rfl) (by kernel_rfl) (by kernel_rfl) (fun _ _ _ h => hQ _ _ _ _ _ h) (Or.inl ⟨by kernel_rfl, fun w _ => by go_simp⟩) (by assumption) ?_
  refine wpAnyH_take (i := 6) (v := (.int .i64 m)) rfl (by kernel_rfl) (by kernel_rfl) (by kernel_rfl) (fun _ _ _ h => hQ _ _ _ _ _ h) (Or.inl ⟨by kernel_rfl, fun w _ => by go_simp⟩) (by assumption) ?_
  refine wpAnyH_take (i := 7) (v := (.slice (some ⟨b, off + m, none⟩) 16 (bcap - m))) rfl (by kernel_rfl) (by kernel_rfl) (by kernel_rfl) (fun _ _ _ h => hQ _ _ _ _ _ h) (Or.inl ⟨by kernel_rfl, fun w _ => by go_simp⟩) (by assumption) ?_
  have HE := sealof_any w0.drew (hT.later (Fr.refl _ w0).drew) s hs (some ⟨b, off, none⟩) bcap x (hX.later (Fr.refl _ w0).drew) (by omega)
  rw [hx] at HE
  refine wpAnyH_ready (rs := [4]) (by kernel_rfl) (by simp) (readyH_call (i := 4) rfl (by kernel_rfl) 29 #[.string ⟨s.toArray⟩, .slice (some ⟨b, off, none⟩) m bcap] (by kernel_rfl) HE ?_ AllReadyH.nil)
  rintro e w3 ⟨so, sc, rfl, g3, r1, r2, _⟩
  have hb3 := r1.batn (by omega)
  have hS3 : Fr (fun _ => False) w0 w3 := ((Fr.refl (fun _ => False) w0).drew).trans r2 (fun _ _ t => t)
  refine ⟨_, rfl, hS3, ?_⟩
  have HS := same_any w3 so sc ((hmac s x).take 16) hb3.1 (some ⟨b, off + m, none⟩) (bcap - m) y (hY.later hS3)
  rw [hb3.2.1, hy] at HS
  refine wpAnyH_ready (rs := [8]) (by kernel_rfl) (by simp) (readyH_call (i := 8) rfl (by kernel_rfl) 14 #[.slice so 16 sc, .slice (some ⟨b, off + m, none⟩) 16 (bcap - m)] (by kernel_rfl) HS ?_ AllReadyH.nil)
  rintro e w4 ⟨rfl, rfl⟩
  refine ⟨_, rfl, hS3, ?_⟩
  refine wpAnyH_take (i := 9) (v := (.bool (!decide ((hmac s x).take 16 = y)))) rfl (by kernel_rfl) (by kernel_rfl) (by kernel_rfl) (fun _ _ _ h => hQ _ _ _ _ _ h) (Or.inl ⟨by kernel_rfl, fun w _ => by go_simp⟩) (by assumption) ?_
  refine wpAnyH_done (by kernel_rfl) ?_ _
  refine q_frame ?_ (h w4 so sc hS3)
  kernel_rfl

end Go.Proofs.YtgklgbomfipagaaDoor
