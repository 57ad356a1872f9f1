import Derived.Test.YtndiohojgpdkgaaDoorZGB
import Derived.Test.YtndiohojgpdkgaaDoorZVA
/- The walk of LinkSecrets. -/
namespace Go.Proofs.YtndiohojgpdkgaaDoor
open Go.RowKit

set_option maxRecDepth 20000 in
theorem secrets_walk (w : World) (hT : TabP w) (hR : TabRZ w) (s : List UInt8) (n : Int) :
    Calls Tryd.prog 3 #[.string ⟨s.toArray⟩, .int .i64 n] w fun e w' => e = .returned (.bool true) ∧ Fr (fun _ => False) w w' := by
  have HT := hide (And.intro hT hR)
  clear hT hR
  have HRS : Hid (∀ u, Fr (fun _ => False) w u → Calls Tryd.prog 9 #[.string ⟨s.toArray⟩, .int .i64 n] u fun e w' => e = .returned (.tuple #[.string ⟨(lsec s n).1.toArray⟩, .int .i64 (lsec s n).2]) ∧ Fr (fun _ => False) u w') := hide (fun u hu => rsecret_any u ((unhide HT).2.later hu) s n)
  go_enter Tryd.func3, Tryd.ntmps3
  go_wp2_with fail
  refine (awakeL_any w (unhide HT).1).mono ?_
  rintro e w1 ⟨rfl, h1⟩
  go_wp2_with fail
  refine (secret_any w1 ((unhide HT).1.later (unhide h1)) s n).mono ?_
  generalize (lsec s n).1 = K at *
  generalize (lsec s n).2 = E at *
  rintro e w2 ⟨rfl, h2⟩
  have HF2 := hide ((unhide h1).trans h2 (fun _ _ t => t))
  clear h1 h2
  go_wp2_with fail
  refine (unhide HRS w2 (unhide HF2)).mono ?_
  rintro e w3 ⟨rfl, h3⟩
  have HF3 := hide ((unhide HF2).trans h3 (fun _ _ t => t))
  clear h3 HF2
  go_wp2
  go_ret
  exact ⟨rfl, unhide HF3⟩

end Go.Proofs.YtndiohojgpdkgaaDoor

